import PyProof.Rows.All
import KE.KTryMore
import KE.KDictOf
import KE.KItem
import KE.KRevSl
import KE.KRevIter
import KE.KDictList
import PySem.Challenge.RW_lookwords_k12_counted_refused
open PySem.Heap renaming get?_push_of_some→aa,get?_push_size→ah,lt_size→am,get?_update_self→bb,SameBut→bD,get?_update_other→cf,size_push→cj
open List renaming mem_cons→ac,mem_cons_of_mem→ae,length_append→af,mem_append→ai,getElem?_set_ne→aj,size_toArray→ak,length_cons→aq,getElem?_eq_some_iff→au,mem_cons_self→aw,mem_singleton→ax,mem_map→ay,length_map→aB,getElem?_set_self→aC,replicate→aE,map_cons→aF,getElem?_eq_getElem→aG,getElem?_map→aH,append_assoc→aI,nodup_cons→aL,mem_append_right→aM,not_mem_nil→aO,range→aQ,Nodup→aS,filterMap_cons→bc,append_nil→bf,getElem?_replicate→bg,all_eq_true→bh,length_nil→bq,getElem?_append_right→bI,map_nil→bK,find?_cons_of_neg→bL,replicate_succ→bO,nil_append→bP,getElem?_eq_none_iff→bQ,getElem?_eq_none→bR,pairwise_cons→bT,mem_append_left→bV,flatten_cons→bX,foldl_cons→ce,find?_cons_of_pos→cg,getElem_mem→ci,findIdx?_cons→cq,getElem?_append_left→cr,mem_of_find?_eq_some→cu,mem_of_getElem?→cA,length_range→cB,any_cons→cG,replicate_zero→cM,mem_range→cN,nodup_nil→cP,cons_append→cQ,getElem?_cons_succ→cR,getElem?_cons_zero→cS,countP_cons→cT,map_map→cW,length_set→cX,find?_cons→cY,length_replicate→c6,nodup_append→c8,mem_filter→dm,reverse_cons→dE,getElem?_toArray→dH,lookup_cons→dI,mem_iff_getElem→dM,of_mem_zip→dN,map_append→dO,filter_eq_self→dP,mem_filterMap→dU,ext_getElem?→eh,getElem_inj→ez,length_take→eG,zipIdx_cons→eJ,zip→fh,all_cons→fk,length→fC
open Nat renaming le_refl→ao,ne_of_lt→aA,lt_of_lt_of_le→aD,zero_le→bB,lt_irrefl→bG,le_trans→bU,ne_of_gt→cz,le_of_lt→cU,lt_trans→dF,le_of_eq→dQ,sub_self→dR,le_succ→d6,lt_succ_of_lt→d9
open Or renaming inl→ap,inr→bC
open PySem.Str renaming ofString→aJ,length→fz
open Option renaming some→aK,map_eq_some_iff→aR,bind_eq_some_iff→bW,isSome_map→d8
open Bool renaming and_eq_true→aN,false_ne_true→aY
open PySem.Value renaming bool→aP,ref→bN,none→cC,builtin→dh,str→dS,isStrOf→ei,type→eU,int→fj
open Array renaming getElem?_toList→aU,getElem?_eq_getElem→bx,length_toList→bz,getElem?_eq_none→cV,mk→eZ
open PySem.W renaming hideAll→aV,exmOne→bu,emptyDict→bH,fnOf→bJ,kitOne→bM,instObj→cw,kia_one→cx,hideAll_none→cy,hideAll_get→cK,excIn→dg,of_hideAll→dn,cellsFrom_some→dB,callWith_K→dW,methodObj→dY,OpenLaw→eX,lookIn→fg
open Ne renaming symm→aX
open PySem renaming strKind→aZ,mem_of_lookup→be,call→fF
open PySem.Builtin.List renaming listExtendWith→ba,listTooLong→cF,listSameRef→cI
open PySem.SetTable renaming below→bi,grown→cO,orStandIn→dt,laid→fy
open PySem.PassesOwn renaming leaving→bj
open PySem.Around renaming under_plainId→bn
open PySem.Builtin.Slice renaming sliceAdjust→bo,slicePlaces→db
open Sum renaming inr→bp,inl→dJ
open PySem.Builtin.Frozenset renaming updateFrom→br,isAnySet→cm
open PySem.NameKind renaming free→bt
open Classical renaming byContradiction→bv
open PySem.Heap.SameBut renaming update→bA
open PySem.F renaming called_set→bE,plainAttrs_list→bY,args_tuple_add_2→df,slot_list_getattribute→dj,entry_tuple_add→dw,slot_tuple_add→dD,slot_dict_get→dG
open PyProof.Rows renaming callWith_type1→bF,slot_tuple_getitem→cJ
open False renaming elim→bS
open PySem.SeqAt renaming ne_of_list_tuple→bZ,EqAt→fG
open ForInStep renaming yield→cc
open List.Perm renaming refl→ck
open PySem.Obj renaming mapSeq→cE,putSet→fA
open PySem.Builtin.Tuple renaming tupleExact→cH
open Eq renaming trans→cZ
open PySem.Builtin.Str renaming strSliceIndices→c7
open True renaming intro→c9
open PySem.Calls renaming spliced_cons→dq,evalArgs_plain→dL,spliced_nil→dZ
open PyProof.Rows.F renaming plain_set_update_loop→dA
open Int renaming emod_lt_of_pos→dX,emod_nonneg→eY
open List.Pairwise renaming nil→d7
open PySem.Paired renaming length→ej
open PySem.Shared renaming TypeIs→et
open PySem.Txt renaming join→eI
open PySem.Expr renaming Constant→fm
open PySem.W.KF renaming type_class→fq
open PyProof.Rows.IsTup renaming new→fB
open Prod renaming ext→fE
noncomputable section
open PySem.W (Frag nsIn keepIn codeIn mg_of mg_none_of)
set_option Elab.async false
set_option linter.all false
set_option maxRecDepth 100000
namespace Kx
noncomputable section
open PySem PySem.W PySem.Calls PyProof.Rows
noncomputable def zP:Pos:=⟨0,0,0,0⟩
noncomputable def anV:Option Value:=some (.ref 6)
noncomputable def hA (P:Params):List Obj:=(boot_heap P).objs.toList++[⟨.type "tuple",none,.seq #[] 0,#[]⟩,⟨.none,none,.fields #[],#[]⟩,
 ⟨.type "code",none,.fields #[.str "<module>" 182,.str "<module>" 183,.str "/claim/cut.py" 184,.int 1 0,.int 0 0,.int 0 0,.int 0 0,.int 0 0,.ref 11,.bool false,.int 181 0,.ref 12,.none,.none,.none,.none,.int 185 0,.int 1 0,.str "/claim/cut.py" 186],#[]⟩,
 ⟨.type "frame",none,.plain,#[some (.ref 13),some (.ref 3),some (.ref 3),none,some (.str "__main__" 164),none,some (.ref 0)]⟩]
noncomputable def enP (p:Program):Env:={ scope:=p.main.scope,locals:=mainNs,globals:=mainNs,cells:=[],code:=.ref 13,frame:=some 14 }
noncomputable def cdP (p:Program):Code:=.body (behindTheImports p) (enP p)
noncomputable def trA:List Obj->Nat->BT->BT
 | [],_,t=>t
 | o::l,i,t=>trA l (i+1) (t.ins i o)
noncomputable def SA (w:World) (os:OsState):SharedT:=⟨trA (hA w.params) 0 .nil,15,(boot_heap w.params).life,eZ [],boot_drawn,187,os⟩
noncomputable def kH (P:Params) (s:Str) (t:Nat) (v:Value):DictEntry:=⟨PyData.keyHash P s,.str s t,v⟩
noncomputable def eM:Value:=.str "lookwords.errors" 187
noncomputable def eT (a:List Value):Obj:=⟨.type "tuple",none,.seq ⟨a⟩ 0,#[]⟩
noncomputable def eF (c:Value) (a:List Value):Obj:=⟨c,none,.fields ⟨a⟩,#[]⟩
noncomputable def eB:Value:=.type "builtin_function_or_method"
noncomputable def eD (a:List DictEntry) (n:Nat):Obj:=⟨.type "dict",none,.dict ⟨a⟩ n,#[]⟩
noncomputable def eA (P:Params) (s:Str) (b:Value) (n t l:Nat):List Obj:=[eT [b],eF eB [.builtin "type.__prepare__",.type "type"],
 eD [kH P "__module__" (t+7) eM,kH P "__qualname__" (t+9) (.str s (t+8)),kH P "__firstlineno__" (t+11) (.int l (t+10)),kH P "__static_attributes__" (t+12) (.ref (n+7))] 4,
 eT [],eF .none [],eF (.type "code") [.str s (t+2),.str s (t+3),.str "/claim/cut.py" (t+4),.int l 0,.int 0 0,.int 0 0,.int 0 0,.int 0 0,.ref (n+3),.bool false,.int 181 0,.ref (n+4),.none,.none,.none,.none,.int ((t+5:Nat):Int) 0,.int l 0,.str "/claim/cut.py" (t+6)],
 ⟨.type "frame",none,.plain,#[some (.ref (n+5)),some (.ref 3),some (.ref (n+2)),none,some eM,none,some (.ref 0)]⟩,eT []]
noncomputable def eC (s:Str) (b:Value) (n t:Nat) (m sub:List Value):Obj:=⟨.type "type",none,.cls { name:=s,bases:=[b],mro:=.ref (n+9)::m,ns:=n+8,qualname:=s,subclasses:=sub },#[some (.ref n),none,some (.str s t),some (.str s (t+8)),some (.builtin "ValueError.__new__"),some (.bool true)]⟩
noncomputable def eS (a:Nat):List Obj:=[eF (.type "super") [.ref a,.ref a,.ref a],eF eB [.builtin "object.__init_subclass__",.ref a]]
noncomputable def eK (P:Params) (t l:Nat) (n:Nat):List DictEntry:=[kH P "__module__" (t+7) eM,kH P "__firstlineno__" (t+11) (.int l (t+10)),kH P "__static_attributes__" (t+12) (.ref (n+7))]
noncomputable def eV:List Value:=[.type "ValueError",.type "Exception",.type "BaseException",.type "object"]
noncomputable def eL (P:Params):List Str->Nat->Nat->Nat->List Obj
 | [],_,_,_=>[]
 | s::r,n,t,l=>eA P s (.ref 24) n t l++eD (eK P t l n++[kH P "__doc__" (t+13) .none]) 2::eC s (.ref 24) n t (.ref 24::eV) []::eS (n+9)++eL P r (n+12) (t+16) (l+2)
noncomputable def eE (P:Params):List Str->Nat->Nat->List DictEntry
 | [],_,_=>[]
 | s::r,n,t=>kH P s (t+15) (.ref (n+9))::eE P r (n+12) (t+16)
noncomputable def eR:Nat->Nat->List Value
 | 0,_=>[]
 | k+1,n=>.ref n::eR k (n+12)
noncomputable def eQ:Nat->Nat->Nat->List Value
 | 0,_,_=>[]
 | k+1,n,l=>.int l 0::.int 0 0::.ref n::eQ k (n+12) (l+2)
noncomputable def eO (P:Params) (L:List Str):Obj:=match (boot_o_3 P).data with
 | .dict a _=>eD (kH P "__name__" 165 eM::a.toList.drop 1++kH P "WordError" 206 (.ref 24)::eE P L 28 207) (L.length+10)
 | _=>eT []
noncomputable def hC (P:Params) (L:List Str):List Obj:=(hA P).take 3++eO P L::((hA P).drop 4).take 8++eF .none (.int 2 0::.int 0 0::.ref 20::eQ L.length 33 4)::(hA P).drop 13 ++
 eA P "WordError" (.type "ValueError") 15 189 2++eD (eK P 189 2 15++[kH P "__weakref__" 203 (.ref 25),kH P "__doc__" 204 .none]) 3::eC "WordError" (.type "ValueError") 15 189 eV (eR L.length 37) ::
 eF (.type "getset_descriptor") [.str "__weakref__" 202,.ref 24,.builtin "ExceptionGroup.__weakref__",.none]::eS 24++eL P L 28 207 4
noncomputable def SC (L:List Str) (w:World) (os:OsState):SharedT:=⟨trA (hC w.params L) 0 .nil,12 * L.length+28,(boot_heap w.params).life,eZ [],boot_drawn,16 * L.length+207,os⟩
noncomputable def zC (L:List Str):Pos:=⟨2 * L.length+2,0,2 * L.length+3,8⟩
noncomputable def Xz (L:List Str) (p:Program) (w:World) (M:Nat) (os:OsState):Option (Flow×Code×Shared):=
 (segRunT treeTable p w 11 anV 1 M (SC L w os) (piecesOf ((behindTheImports p).drop (L.length+2)) (enP p) (cdP p) (zC L) [topFrame zP])).bind fun r=>
  (topRun treeTable p w 11 anV 5 r.2.1.abs (restOf [] (enP p) (cdP p) r.2.2.2 [topFrame zP])).map fun s=>(r.1,r.2.2.1,s)
abbrev qcq (p:Program) (w:World) (x:Flow×Code×Shared):=
 (x.1,x.2.1,(staticsOk (importedModules p.main.body) (boot_heap w.params) x.2.2.heap&&namesBound p x.2.2.heap&&gensDone x.2.2&&laidKept (boot_heap w.params) x.2.2.heap))
abbrev Kr (p q:Program) (loose:List Str) (Xt:Shared->Bool) (x:Flow×Code×Shared):=openSeen q loose (importedModules p.main.body) Xt true x.2.2
theorem left_T {L:List Str} {p q:Program} {loose:List Str} {Xt:Shared->Bool} {α:Type} {Yf:Shared->α} {Ya:World->α} {N M:Nat}
  (e:opening p=plainProg p.main.scope.names) (hN:Nat.ble 600 N=true) (f:∀ s,fenceModules? p s=some s)
  (size:∀ w:World,((boot_heap w.params).isNs mainGlobals&&(eZ []:Array GenState).size == 0,(boot_heap w.params).objs.size,(boot_heap w.params).nsMap mainGlobals "__annotations__")=(true,11,anV))
  (pre:∀ (w:World) (os:OsState),topGo treeTable p w 11 anV 12 ⟨boot_heap w.params,eZ [],boot_drawn,boot_toks,os⟩ (topStub p)=some ((SA w os).abs,⟨denote treeTable (cdP p),cdP p,zP,[topFrame zP]⟩))
  (blk:∀ (w:World) (os:OsState),segRun treeTable p w 11 anV 1 1 (SA w os).abs (blockOf (behindTheImports p) (enP p) (cdP p) zP [topFrame zP])=some (.next,(SA w os).abs,cdP p,zP))
  (le:Nat.ble (12+(1+(3500+(M+5)))) N=true)
  (m6:∀ (w:World) (os:OsState),segRunT treeTable p w 11 anV 1 3500 (SA w os) (piecesOf ((behindTheImports p).take (L.length+2)) (enP p) (cdP p) zP [topFrame zP])=some (.next,SC L w os,cdP p,zC L))
  (m0:∀ (w:World) (os:OsState),(Xz L p w M os).map (qcq p w)=some (.next,cdP p,true))
  (m1:∀ (w:World) (os:OsState),(Xz L p w M os).map (fun x=>(Kr p q loose Xt x).1)=some (openGood q loose).1)
  (m3:∀ (w:World) (os:OsState),(Xz L p w M os).map (fun x=>(Kr p q loose Xt x).2.1)=some (openGood q loose).2.1)
  (m4:∀ (w:World) (os:OsState),(Xz L p w M os).map (fun x=>(Kr p q loose Xt x).2.2.1)=some (openGood q loose).2.2.1)
  (m5:∀ (w:World) (os:OsState),(Xz L p w M os).map (fun x=>(Kr p q loose Xt x).2.2.2)=some (openGood q loose).2.2.2)
  (m2:∀ (w:World) (os:OsState),(Xz L p w M os).map (fun x=>Yf x.2.2)=some (Ya w)):LeftO p q loose Xt Yf Ya N:=fun w=>by
 obtain ⟨⟨h,gs,d,k,os⟩,a,a'⟩:=aR.mp (boot_open e hN f w)
 obtain ⟨rfl,rfl,rfl,rfl⟩:h=boot_heap w.params/\gs=eZ []/\d=boot_drawn/\k=boot_toks:=by simpa using a'
 obtain ⟨x,hx,hl⟩:=aR.mp (m0 w os)
 have l2:openSeen q loose (importedModules p.main.body) Xt true x.2.2=openGood q loose:=by
  have a1:=m1 w os
  have a3:=m3 w os
  have a4:=m4 w os
  have a5:=m5 w os
  rw [hx] at a1 a3 a4 a5
  exact fE (aK.inj a1) (fE (aK.inj a3) (fE (aK.inj a4) (aK.inj a5)))
 obtain ⟨y,hy,hY⟩:=aR.mp (m2 w os)
 obtain rfl:y=x:=aK.inj (hy.symm.trans hx)
 obtain ⟨r,hr,hz⟩:=bW.mp hx
 obtain ⟨s,hs,rfl⟩:=aR.mp hz
 obtain ⟨fl,st,co,po⟩:=r
 unfold qcq at hl
 simp only [Prod.mk.injEq] at hl
 obtain ⟨rfl,rfl,l1⟩:=hl
 have t1:=piece_app (rest:=[]) (segRun_of hr) hs
 rw [bf] at t1
 have t1:=piece_app (segRun_of (m6 w os)) t1
 rw [List.take_append_drop] at t1
 have t2:=piece_block (blk w os) t1
 have t3:=topRun_mono (N - (12+(1+(3500+(M+5))))) _ _ _ _ (go_top (pre w os) t2)
 rw [show 12+(1+(3500+(M+5)))+(N - (12+(1+(3500+(M+5)))))=N by have:=Nat.le_of_ble_eq_true le; omega] at t3
 obtain ⟨z1,z2,z3⟩:_/\_/\_:=by simpa only [Prod.mk.injEq] using size w
 have t:topFrom treeTable p w N ⟨boot_heap w.params,eZ [],boot_drawn,boot_toks,os⟩=some s:=by
  unfold topFrom
  dsimp only
  rw [z1,z2,z3,t3]
  show (match staticsOk (importedModules p.main.body) (boot_heap w.params) s.heap&&namesBound p s.heap&&gensDone s&&laidKept (boot_heap w.params) s.heap with | true=>_ | false=>_)=_
  rw [l1]
 unfold openEnds
 rw [a]
 show (topFrom treeTable p w N _).map _=_
 rw [t]
 exact congrArg some (fE l2 hY)
end
end Kx
noncomputable section
open PySem PySem.W PyProof.Rows
noncomputable def Kx.vq:Program:=view PySem.Challenge.pw_lookwords_k12_counted_refused [1,2,3,4,5,6,7,8,9,10,11,12,13,14,16,17,18,19,20,21,22,23,24,25,26,27,28,29,30,31,32,33,35,36,37,38,39,41,42,43,44,45,46,47,48,49,50,51,52,53,54,55,56,58,59,60,61,63,64,65,66,67,68,70,71,72,73,74,75,76,77,78,79,80,81,82,83,84,85,86]
noncomputable def Kx.eN:List Str:=["NoWords", "NoLook", "NoNumbers", "NoRoom", "NoWord", "NoWorths", "Never", "Full", "Known", "NoPlace", "NoLetters", "NoText", "Nothing"]
noncomputable def Kx.xt (s:Shared):Bool:=xlAt Kx.vq [] s&&recOk (RowW.records (OpenRow.toRowW (OpenLaw.row PySem.Challenge.rw_lookwords_k12_counted_refused))) s
theorem Kx.m6:∀ (w:World) (os:OsState),segRunT treeTable PySem.Challenge.pw_lookwords_k12_counted_refused w 11 Kx.anV 1 3500 (Kx.SA w os) (piecesOf ((behindTheImports PySem.Challenge.pw_lookwords_k12_counted_refused).take (Kx.eN.length+2)) (Kx.enP PySem.Challenge.pw_lookwords_k12_counted_refused) (Kx.cdP PySem.Challenge.pw_lookwords_k12_counted_refused) Kx.zP [topFrame Kx.zP])=some (.next,Kx.SC Kx.eN w os,Kx.cdP PySem.Challenge.pw_lookwords_k12_counted_refused,Kx.zC Kx.eN):=by intro w os; kernel_rfl
theorem Kx.m0:∀ (w:World) (os:OsState),(Kx.Xz Kx.eN PySem.Challenge.pw_lookwords_k12_counted_refused w 15000 os).map (Kx.qcq PySem.Challenge.pw_lookwords_k12_counted_refused w)=some (.next,Kx.cdP PySem.Challenge.pw_lookwords_k12_counted_refused,true):=by intro w os; kernel_rfl
theorem Kx.m1:∀ (w:World) (os:OsState),(Kx.Xz Kx.eN PySem.Challenge.pw_lookwords_k12_counted_refused w 15000 os).map (fun x=>(Kx.Kr PySem.Challenge.pw_lookwords_k12_counted_refused Kx.vq [] Kx.xt x).1)=some (openGood Kx.vq []).1:=by intro w os; kernel_rfl
theorem Kx.m3:∀ (w:World) (os:OsState),(Kx.Xz Kx.eN PySem.Challenge.pw_lookwords_k12_counted_refused w 15000 os).map (fun x=>(Kx.Kr PySem.Challenge.pw_lookwords_k12_counted_refused Kx.vq [] Kx.xt x).2.1)=some (openGood Kx.vq []).2.1:=by intro w os; kernel_rfl
theorem Kx.m4:∀ (w:World) (os:OsState),(Kx.Xz Kx.eN PySem.Challenge.pw_lookwords_k12_counted_refused w 15000 os).map (fun x=>(Kx.Kr PySem.Challenge.pw_lookwords_k12_counted_refused Kx.vq [] Kx.xt x).2.2.1)=some (openGood Kx.vq []).2.2.1:=by intro w os; kernel_rfl
theorem Kx.m5:∀ (w:World) (os:OsState),(Kx.Xz Kx.eN PySem.Challenge.pw_lookwords_k12_counted_refused w 15000 os).map (fun x=>(Kx.Kr PySem.Challenge.pw_lookwords_k12_counted_refused Kx.vq [] Kx.xt x).2.2.2)=some (openGood Kx.vq []).2.2.2:=by intro w os; kernel_rfl
local macro_rules | `(tactic| o_head $H) => `(tactic| (refine holds_open (q := Kx.vq) (loose := []) (Xt := Kx.xt) (XP := XL Kx.vq []) (Yf := Hook.obs $H) (Ya := Hook.val $H) (YP := Hook.says $H) (N := 20000) ?hl (Hook.of $H) (Hook.keeps $H) (fun s e => xl_of s (Bool.and_eq_true_iff.mp e).1) XL.keeps (by rfl) (by rfl) (by rfl) (fun s e => recFacts_of (Bool.and_eq_true_iff.mp e).2) (by rfl) (by first | assumption | decide +kernel) (by decide +kernel) ⟨rfl, rfl, rfl, rfl, rfl, by decide +kernel⟩ ?hw ?hc; (case hl => refine Kx.left_T (p := PySem.Challenge.pw_lookwords_k12_counted_refused) (M := 15000) ?e rfl ?f ?s ?p ?b rfl Kx.m6 Kx.m0 Kx.m1 Kx.m3 Kx.m4 Kx.m5 ?m; (case e => kernel_rfl); (case f => intro s; kernel_rfl); (case s => intro w; kernel_rfl); (case p => intro w os; kernel_rfl); (case b => intro w os; kernel_rfl); (case m => intro w os; kernel_rfl))))
set_option maxHeartbeats 0 in
open_top Kx.hd for PySem.Challenge.rw_lookwords_k12_counted_refused
end
namespace L2
open PySem PySem.Spec PyProof.Rows
abbrev Key:=Sum Int Str
noncomputable def zW:Key->Value->Bool
 | .inl k,v=>Value.isInt k v
 | .inr x,v=>ei x v
noncomputable def qhv (w:World):Key->Int
 | .inl k=>hashInt k
 | .inr x=>hashStr w x
theorem jo:∀ {k:Key} {v:Value},zW k v=true->(∃ i t,k=dJ i/\v=fj i t)\/(∃ x t,k=bp x/\v=dS x t)
 | .inl i,v,h=>by
  obtain ⟨t,e⟩:=Value.isInt_shape (k:=i) (v:=v) h
  exact .inl ⟨i,t,rfl,e⟩
 | .inr x,v,h=>by
  obtain ⟨t,e⟩:=Value.isStrOf_shape (x:=x) (v:=v) h
  exact .inr ⟨x,t,rfl,e⟩
theorem Ks (i:Int) (t:Tok):zW (.inl i) (.int i t)=true:=by simp [zW,Value.isInt]
theorem Kt (x:Str) (t:Tok):zW (.inr x) (.str x t)=true:=by simp [zW,ei]
theorem qdX (a b:Int):decide ((dJ a:Key)=dJ b)=(a == b):=by
 by_cases e:a=b
 ·subst e; simp
 ·have h:¬(dJ a:Key)=dJ b:=fun q=>e (dJ.inj q)
  rw [decide_eq_false h]
  exact (beq_eq_false_iff_ne.mpr e).symm
theorem qdY (a b:Str):decide ((bp a:Key)=bp b)=decide (a=b):=by
 by_cases e:a=b
 ·subst e; simp
 ·have h:¬(bp a:Key)=bp b:=fun q=>e (bp.inj q)
  rw [decide_eq_false h,decide_eq_false e]
theorem qdZ (a:Int) (b:Str):decide ((dJ a:Key)=bp b)=false:=decide_eq_false (fun q=>nomatch q)
theorem qd0 (a:Str) (b:Int):decide ((bp a:Key)=dJ b)=false:=decide_eq_false (fun q=>nomatch q)
noncomputable def jg (prog:Program) (w:World):PySem.KeyKind prog w Key where
 is:=zW
 hash:=qhv w
 inj:=fun v a b ha hb=>by
  rcases jo ha with ⟨i,t,rfl,rfl⟩ | ⟨x,t,rfl,rfl⟩
  ·rcases jo hb with ⟨j,u,rfl,e⟩ | ⟨y,u,rfl,e⟩
   ·injection e with e1 _; rw [e1]
   ·exact nomatch e
  ·rcases jo hb with ⟨j,u,rfl,e⟩ | ⟨y,u,rfl,e⟩
   ·exact nomatch e
   ·injection e with e1 _; rw [e1]
 byValue:=fun k v h=>by
  rcases jo h with ⟨i,t,rfl,rfl⟩ | ⟨x,t,rfl,rfl⟩ <;> rfl
 pyHash:=fun hv h=>by
  rcases jo hv with ⟨i,t,rfl,rfl⟩ | ⟨x,t,rfl,rfl⟩
  ·exact wpAny_pyHash_int h
  ·exact wpAny_pyHash_str h
 eqBool:=fun hu hv h=>by
  rcases jo hu with ⟨i,t,rfl,rfl⟩ | ⟨x,t,rfl,rfl⟩
  ·rcases jo hv with ⟨j,u,rfl,rfl⟩ | ⟨y,u,rfl,rfl⟩
   ·rw [qdX] at h; exact wpAny_eqBool_int h
   ·rw [qdZ] at h; exact SeqAt.EqAt.int_str i t y u _ _ _ _ h
  ·rcases jo hv with ⟨j,u,rfl,rfl⟩ | ⟨y,u,rfl,rfl⟩
   ·rw [qd0] at h; exact SeqAt.EqAt.str_int x t j u _ _ _ _ h
   ·rw [qdY] at h; exact wpAny_eqBool_str h
 «strs»:=fun k x t v h=>by
  rcases jo h with ⟨i,u,rfl,e⟩ | ⟨y,u,rfl,e⟩
  ·exact nomatch e
  ·injection e with e1 _
   subst e1
   cases v <;> rfl
theorem Wa (prog:Program) (w:World) (i:Int) (t:Tok):(jg prog w).is (.inl i) (.int i t)=true:=Ks i t
theorem Wb (prog:Program) (w:World) (x:Str) (t:Tok):(jg prog w).is (.inr x) (.str x t)=true:=Kt x t
inductive V where
 | non | bl (b:Bool) | int (i:Int) | str (x:Str) | byt (b:Array UInt8) | flt (b:UInt64) | ref (a:Addr) | ty (n:String)
 deriving DecidableEq
def RelV:V->Value->Prop
 | .non,u=>u=cC
 | .bl b,u=>u=aP b
 | .int i,u=>∃ t,u=fj i t
 | .str x,u=>∃ t,u=dS x t
 | .byt b,u=>∃ t,u=Value.bytes b t
 | .flt b,u=>∃ t,u=Value.float b t
 | .ref a,u=>u=bN a
 | .ty n,u=>u=eU n
abbrev Vals:List V->List Value->Prop:=Paired RelV
variable {xs:List V} {us:List Value}
theorem Vals.length (r:Vals xs us):xs.length=us.length:=ej r
theorem Vals.get:∀ {xs:List V} {us:List Value} {i:Nat} {x:V},Vals xs us->xs[i]?=some x->∃ u,us[i]?=some u/\RelV x u
 | _,_,_,_,.nil,e=>by simp at e
 | _,_,0,_,.cons r _,e=>by simp at e; subst e; exact ⟨_,rfl,r⟩
 | _,_,i+1,x,.cons _ t,e=>by
  obtain ⟨u,h1,h2⟩:=Vals.get (i:=i) (x:=x) t (by simpa using e)
  exact ⟨u,by simpa using h1,h2⟩
variable {u:Value}
theorem Vals.set {x:V} (r:RelV x u):∀ {xs:List V} {us:List Value} (i:Nat),Vals xs us->Vals (xs.set i x) (us.set i u)
 | _,_,_,.nil=>.nil
 | _,_,0,.cons _ t=>.cons r t
 | _,_,i+1,.cons q t=>.cons q (Vals.set r i t)
theorem Vals.append:∀ {xs ys:List V} {us ws:List Value},Vals xs us->Vals ys ws->Vals (xs++ys) (us++ws)
 | _,_,_,_,.nil,s=>s
 | _,_,_,_,.cons r t,s=>.cons r (Vals.append t s)
theorem Vals.take:∀ {xs:List V} {us:List Value} (n:Nat),Vals xs us->Vals (xs.take n) (us.take n)
 | _,_,0,_=>.nil
 | _,_,_+1,.nil=>.nil
 | _,_,n+1,.cons r t=>.cons r (Vals.take n t)
theorem Vals.none_of:∀ {xs:List V} {us:List Value} {i:Nat},Vals xs us->xs[i]?=none->us[i]?=none:=fun {xs us i} r e=>by
 have h1:=r.length
 have h2:xs.length<=i:=bQ.mp e
 exact bQ.mpr (by omega)
def RelO:Option V->Option Value->Prop
 | some v,some u=>RelV v u
 | none,none=>True
 | _,_=>False
def KV {κ:Type}:List (κ×V)->List (κ×Value)->Prop:=Paired fun (p:κ×V) (q:κ×Value)=>p.1=q.1/\RelV p.2 q.2
noncomputable def kV:Key->V
 | .inl i=>.int i
 | .inr x=>.str x
inductive HO where
 /-- a list -/
 | lst (xs:List V)
 /-- a tuple (never changes) -/
 | tup (xs:List V)
 /-- a dict whose keys are ints and texts; one whose keys are tuples of ints and texts (the empty one is both) -/
 | dK (kvs:List (Key×V)) | dT (kvs:List (List Key×V))
 /-- a set of ints: its members,its size -/
 | set (S:Int->Bool) (n:Nat)
 /-- an instance of the class at C,its dict at dx,its attributes -/
 | ins (C dx:Addr) (fs:List (Str×V))
 /-- the dict of the instance at x -/
 | own (x:Addr)
 /-- the dict of an exception -/
 | xd (fs:List (Str×V))
 /-- a bound method,f of x -/
 | met (f x:Addr)
 /-- a range object lo,lo+1,.. below hi -/
 | rng (lo hi:Int)
 /-- a thing that is known to the object (the script; a dict while a loop walks it): read,never written while it is so -/
 | frz (o:Obj) (u:HO)
 /-- a code object's table -/
 | tbl (ps:Array Value)
 /-- any other thing,by what is true of its one object (a def of one's own: SetO a S n:=HO.ext fun h=>..) -/
 | ext (φ:Heap->Prop)
abbrev Hp:=Addr->Option HO
noncomputable def upd (H:Hp) (a:Addr) (o:HO):Hp:=fun b=>if b=a then some o else H b
variable {H:Hp} {a:Addr} {o:HO}
theorem qw:upd H a o a=some o:=by unfold upd; rw [if_pos rfl]
variable {b:Addr}
theorem qD (h:b≠a):upd H a o b=H b:=by unfold upd; rw [if_neg h]
theorem qf7 {u:HO} (h:H a=some o) (h':H b=some u) (d:o≠u):a≠b:=by
 intro e; subst e; rw [h] at h'; exact d (aK.inj h')
theorem qK (h:H a=some o) (h':H b=none):a≠b:=by
 intro e; subst e; rw [h] at h'; cases h'
section
variable (P:Program) (w:World)
def ObjOk (H:Hp) (h:Heap) (a:Addr):HO->Prop
 | .lst xs=>xs.length<=sizeLine/\∃ (its:List Value) (n:Nat),Vals xs its/\h.get? a=some { cls:=.type "list",data:=.seq its.toArray n }
 | .tup xs=>(xs.length<=sizeLine/\∃ o,h.get? a=some o/\o.dict=none)/\∃ its:List Value,Vals xs its/\IsTup h a its.toArray
 | .dK kvs=>kvs.length<=sizeLine/\(a == sysModules)=false/\∃ vs,KV kvs vs/\h.DictOf (jg P w) a vs
 | .dT kvs=>kvs.length<=sizeLine/\(a == sysModules)=false/\∃ xs:List (List Key×Addr×Value),
   Paired (fun (p:List Key×V) (q:List Key×Addr×Value)=>p.1=q.1/\H q.2.1=some (.tup (p.1.map kV))/\RelV p.2 q.2.2) kvs xs /\
   ∃ o es ep,h.get? a=some o/\o.ExactDict/\o.data=.dict es ep/\es.toList=xs.map (entryOfKey (tupleKind (jg P w)))/\(xs.map (·.1)).Nodup
 | .set S n=>h.SetOf (intKind P w) a S n
 | .ins C dx fs=>H dx=some (.own a)/\fs.length<=1000/\dx≠a/\h.get? a=some (cw C dx) /\
   ∃ mA,h.Ns1 dx mA/\(∀ f,RelO (fs.lookup f) (mA f))/\PySem.Within mA (fs.map (·.1))
 | .own _=>∃ o,h.get? a=some o
 | .xd fs=>∃ mA,h.Ns1 a mA/\∀ f,RelO (fs.lookup f) (mA f)
 | .rng lo hi=>∃ t u v,h.get? a=some { cls:=.type "range",data:=.fields #[.int lo t,.int hi u,.int 1 v] }
 | .frz o u=>h.get? a=some o/\ObjOk H h a u
 | .tbl ps=>h.get? a=some { cls:=.none,data:=.fields ps }
 | .met f x=>h.get? a=some (dY (.ref f) (.ref x))
 | .ext φ=>φ h/\(∃ o,h.get? a=some o)/\∀ h1 h2:Heap,φ h1->(∀ o,h1.get? a=some o->h2.get? a=some o)->φ h2
def HOk (H:Hp) (h:Heap):Prop:=∀ a o,H a=some o->ObjOk P w H h a o
end
variable {P:Program} {w:World} {H':Hp} {h h':Heap} {α:Type}
section
theorem ObjOk.lt (x:ObjOk P w H h a o):a < h.objs.size:=by
 cases o with
 | lst xs=>obtain ⟨_,_,_,_,e⟩:=x; exact am e
 | tup xs=>obtain ⟨_,_,_,p⟩:=x; exact p.lt
 | dK kvs=>obtain ⟨_,_,_,_,o,_,_,e,_⟩:=x; exact am e
 | dT kvs=>obtain ⟨_,_,_,_,o,_,_,e,_⟩:=x; exact am e
 | set S n=>obtain ⟨o,_,_,_,e,_⟩:=x; exact am e
 | ins C dx fs=>obtain ⟨_,_,_,e,_⟩:=x; exact am e
 | own y=>obtain ⟨_,e⟩:=x; exact am e
 | xd fs=>obtain ⟨_,⟨_,_,_,e,_⟩,_⟩:=x; exact am e
 | rng lo hi=>obtain ⟨_,_,_,e⟩:=x; exact am e
 | frz ob u=>obtain ⟨e,_⟩:=x; exact am e
 | tbl ps=>exact am (show h.get? a=some _ from x)
 | met f y=>exact am (show h.get? a=some _ from x)
 | ext φ=>obtain ⟨_,⟨_,e⟩,_⟩:=x; exact am e
theorem Paired.mapP {β:Type} {F G:α->β->Prop}:∀ {l₁:List α} {l₂:List β},Paired F l₁ l₂->(∀ a b,F a b->G a b)->Paired G l₁ l₂
 | _,_,.nil,_=>.nil
 | _,_,.cons r t,f=>.cons (f _ _ r) (Paired.mapP t f)
theorem ObjOk.stay (x:ObjOk P w H h a o) (k:∀ b u,(b=a\/H b=some (.own a))->h.get? b=some u->h'.get? b=some u)
  (ho:∀ b,H b=some (.own a)->H' b=some (.own a)) (ht:∀ b xs,H b=some (.tup xs)->H' b=some (.tup xs)):ObjOk P w H' h' a o:=by
 induction o with
 | lst xs=>obtain ⟨z,its,n,r,e⟩:=x; exact ⟨z,its,n,r,k _ _ (.inl rfl) e⟩
 | tup xs=>obtain ⟨⟨z,o2,e2,d2⟩,its,r,ob,e,c⟩:=x; exact ⟨⟨z,o2,k _ _ (.inl rfl) e2,d2⟩,its,r,ob,k _ _ (.inl rfl) e,c⟩
 | dK kvs=>obtain ⟨z,y,vs,r,ob,es,ep,e,c⟩:=x; exact ⟨z,y,vs,r,ob,es,ep,k _ _ (.inl rfl) e,c⟩
 | dT kvs=>
  obtain ⟨z,y,xs,r,ob,es,ep,e,c⟩:=x
  exact ⟨z,y,xs,Paired.mapP r fun p q z=>⟨z.1,ht _ _ z.2.1,z.2.2⟩,ob,es,ep,k _ _ (.inl rfl) e,c⟩
 | set S n=>obtain ⟨ob,es,ep,t,e,c⟩:=x; exact ⟨ob,es,ep,t,k _ _ (.inl rfl) e,c⟩
 | ins C dx fs=>
  obtain ⟨d,z,ne,e,mA,⟨od,es,ep,e2,c⟩,r⟩:=x
  exact ⟨ho _ d,z,ne,k _ _ (.inl rfl) e,mA,⟨od,es,ep,k _ _ (.inr d) e2,c⟩,r⟩
 | own y=>obtain ⟨ob,e⟩:=x; exact ⟨ob,k _ _ (.inl rfl) e⟩
 | xd fs=>obtain ⟨mA,⟨od,es,ep,e,c⟩,r⟩:=x; exact ⟨mA,⟨od,es,ep,k _ _ (.inl rfl) e,c⟩,r⟩
 | rng lo hi=>obtain ⟨t,u,v,e⟩:=x; exact ⟨t,u,v,k _ _ (.inl rfl) e⟩
 | frz ob u ih=>obtain ⟨e,q⟩:=x; exact ⟨k _ _ (.inl rfl) e,ih q⟩
 | tbl ps=>
  have e:h.get? a=some { cls:=.none,data:=.fields ps }:=x
  show h'.get? a=some { cls:=.none,data:=.fields ps }
  exact k a _ (.inl rfl) e
 | met f y=>
  have e:h.get? a=some (dY (.ref f) (.ref y)):=x
  show h'.get? a=some (dY (.ref f) (.ref y))
  exact k a _ (.inl rfl) e
 | ext φ=>obtain ⟨p,⟨o,e⟩,st⟩:=x; exact ⟨st _ _ p fun o q=>k _ _ (.inl rfl) q,⟨o,k _ _ (.inl rfl) e⟩,st⟩
theorem HOk.lt (x:HOk P w H h) (e:H a=some o):a < h.objs.size:=(x a o e).lt
theorem HOk.fresh (x:HOk P w H h) (e:h.objs.size<=a):H a=none:=by
 cases q:H a with
 | none=>rfl
 | some u=>exact absurd (aD (x.lt q) e) (bG _)
theorem HOk.kept (x:HOk P w H h) (k:∀ b u,h.get? b=some u->h'.get? b=some u):HOk P w H h':=fun a o e=>
 (x a o e).stay (fun b u _ q=>k b u q) (fun _ q=>q) fun _ _ q=>q
theorem HOk.laid (x:HOk P w H h) (k:∀ b u,h.get? b=some u->h'.get? b=some u) (hp:h.objs.size<=a) (new:ObjOk P w (upd H a o) h' a o):HOk P w (upd H a o) h':=fun b u e=>by
 have hn:=x.fresh hp
 by_cases hb:b=a
 ·subst hb; rw [qw] at e; cases e; exact new
 ·rw [qD hb] at e
  exact (x b u e).stay (fun c v _ q=>k c v q) (fun c q=>by rw [qD (qK q hn)]; exact q) fun c xs q=>by rw [qD (qK q hn)]; exact q
end
def Rd (H:Hp) (a:Addr) (u:HO):Prop:=H a=some u\/∃ o,H a=some (.frz o u)
theorem Rd.ok {u:HO} (r:Rd H a u) (x:HOk P w H h):ObjOk P w H h a u:=by
 rcases r with r | ⟨o,r⟩
 ·exact x a u r
 ·obtain ⟨_,q⟩:=x a _ r
  exact q
def Mut:Option HO->Prop
 | some (.lst _)=>True
 | some (.dK _)=>True
 | some (.dT _)=>True
 | some (.set _ _)=>True
 | some (.ins _ _ _)=>True
 | some (.ext _)=>True
 | _=>False
section
variable {x e:Addr} {o':HO}
theorem HOk.write (ok:HOk P w H h) (mu:Mut (H x)) (he:e=x\/H e=some (.own x)) (k:∀ b u,b≠e->h.get? b=some u->h'.get? b=some u) (heo:∃ u,h'.get? e=some u)
  (new:ObjOk P w (upd H x o') h' x o'):HOk P w (upd H x o') h':=fun b u q=>by
 have nown:∀ c y,H c=some (.own y)->c≠x:=fun c y r z=>by subst z; rw [r] at mu; exact mu
 have ntup:∀ c xs,H c=some (.tup xs)->c≠x:=fun c xs r z=>by subst z; rw [r] at mu; exact mu
 by_cases hb:b=x
 ·subst hb; rw [qw] at q; cases q; exact new
 ·rw [qD hb] at q
  by_cases hbe:b=e
  ·have q':H b=some (.own x):=by
    rcases he with z | z
    ·exact absurd (hbe.trans z) hb
    ·rw [hbe]; exact z
   rw [q] at q'; cases q'
   obtain ⟨v,hv⟩:=heo
   exact ⟨v,by rw [hbe]; exact hv⟩
  ·refine (ok b u q).stay (fun c v hc r=>k c v ?_ r) (fun c r=>by rw [qD (nown c b r)]; exact r) fun c xs r=>by rw [qD (ntup c xs r)]; exact r
   rcases hc with rfl | hc
   ·exact hbe
   ·rintro rfl
    rcases he with z | z
    ·exact nown c b hc z
    ·rw [hc] at z; cases z; exact hb rfl
end
structure Un (fs ex:List Addr) (H H':Hp) (h h':Heap):Prop where
 keep:∀ b o,h.get? b=some o->H b=none->b∉fs->b∉ex->h'.get? b=some o
 slot:∀ b o,h.get? b=some o->H b=none->b∈fs->b∉ex->∃ sl,h'.get? b=some { o with slots:=sl }
 free:∀ b o,h.get? b=some o->H b=none->b∉ex->H' b=none
 there:∀ b o,h.get? b=some o->b∉ex->∃ o',h'.get? b=some o'
 tups:∀ b xs,H b=some (.tup xs)->H' b=some (.tup xs)
 frzs:∀ b o u,H b=some (.frz o u)->H' b=some (.frz o u)
 tbls:∀ b ps,H b=some (.tbl ps)->∃ more,H' b=some (.tbl (ps++more))
section
variable {fs fs' ex ex':List Addr} {H1 H2:Hp} {h1 h2:Heap} {x e:Addr}
theorem Un.any (u:Un fs ex H H1 h h1) {ob:Obj} (q:h.get? b=some ob) (n:H b=none) (hx:b∉ex):∃ sl,h1.get? b=some { ob with slots:=sl }:=by
 by_cases hb:b∈fs
 ·exact u.slot b ob q n hb hx
 ·exact ⟨ob.slots,u.keep b ob q n hb hx⟩
theorem Un.kept (k:∀ b u,h.get? b=some u->h'.get? b=some u):Un fs ex H H h h':=
 ⟨fun b ob q _ _ _=>k b ob q,fun b ob q _ _ _=>⟨ob.slots,k b ob q⟩,fun _ _ _ n _=>n,fun b ob q _=>⟨ob,k b ob q⟩,fun _ _ q=>q,fun _ _ _ q=>q,fun _ ps q=>⟨#[],by rw [q]; simp⟩⟩
theorem Un.refl:Un fs ex H H h h:=Un.kept fun _ _ q=>q
theorem Un.laid (k:∀ b u,h.get? b=some u->h'.get? b=some u) (hp:h.objs.size<=a) (hn:H a=none):Un fs ex H (upd H a o) h h' where
 keep:=fun b u q _ _ _=>k b u q
 slot:=fun b u q _ _ _=>⟨u.slots,k b u q⟩
 free:=fun b u q n _=>by rw [qD (aA (aD (am q) hp))]; exact n
 there:=fun b u q _=>⟨u,k b u q⟩
 tups:=fun b xs q=>by rw [qD (qK q hn)]; exact q
 frzs:=fun b u xs q=>by rw [qD (qK q hn)]; exact q
 tbls:=fun b ps q=>⟨#[],by rw [qD (qK q hn),q]; simp⟩
theorem Un.write (mu:Mut (H x)) (he:e=x\/H e=some (.own x)) (k:∀ b u,b≠e->h.get? b=some u->h'.get? b=some u) (heo:∃ u,h'.get? e=some u):Un fs ex H (upd H x o) h h':=by
 have hx:∀ b,H b=none->b≠x:=fun b n z=>by subst z; rw [n] at mu; exact mu
 have hb:∀ b,H b=none->b≠e:=fun b n z=>by
  subst z
  rcases he with r | r
  ·exact hx b n r
  ·rw [n] at r; cases r
 have hm:∀ b u,H b=some u->¬Mut (some u)->b≠x:=fun b u q nm z=>by subst z; rw [q] at mu; exact nm mu
 refine ⟨fun b u q n _ _=>k b u (hb b n) q,fun b u q n _ _=>⟨u.slots,k b u (hb b n) q⟩,fun b u q n _=>by rw [qD (hx b n)]; exact n,fun b u q _=>?_,
  fun b xs q=>by rw [qD (hm b _ q fun z=>z)]; exact q,fun b u xs q=>by rw [qD (hm b _ q fun z=>z)]; exact q,fun b ps q=>⟨#[],by rw [qD (hm b _ q fun z=>z),q]; simp⟩⟩
 by_cases hbe:b=e
 ·subst hbe; exact heo
 ·exact ⟨u,k b u hbe q⟩
end
noncomputable def trk (h:Heap) (H:Hp):List Addr:=(aQ h.objs.size).filter fun a=>(H a).isSome
noncomputable def qas (h:Heap) (H:Hp):Heap:=aV h (trk h H)
theorem XA (h:Heap) (H:Hp):(qas h H).objs.size=h.objs.size:=PySem.W.hideAll_size _ _
theorem qat {o:Obj} (e:h.get? b=some o) (n:H b=none):(qas h H).get? b=some o:=
 cK _ e fun hm=>by
  have q:(H b).isSome=true:=(dm.mp hm).2
  rw [n] at q; simp at q
theorem qcr {o:Obj} (e:(qas h H).get? b=some o):h.get? b=some o/\H b=none:=by
 have e':h.get? b=some o:=dn (trk h H) e
 refine ⟨e',?_⟩
 cases q:H b with
 | none=>rfl
 | some x=>
  have hm:b∈trk h H:=dm.mpr ⟨cN.mpr (am e'),by simp [q]⟩
  have z:(qas h H).get? b=none:=cy (trk h H) hm
  rw [z] at e; cases e
noncomputable def qcs (g h:Heap) (L:Addr):List (Addr×Obj):=(aQ h.objs.size).filterMap fun a=>if a=L\/(g.get? a).isSome=true then none else (h.get? a).map fun o=>(a,o)
noncomputable def rest (g h:Heap) (L d:Addr):List (Addr×Obj):=(qcs g h L).filter fun p=>decide (p.1≠d)
structure Mod (K:Frag) (mg:Str->Option Value) (base:Heap):Prop where
 kin:K.In base
 glob:base.Ns mainGlobals mg
 blt:∃ mb,base.Ns builtinsNs mb/\∀ x:Str,x ≠ "__name__"->mb x=bootBuiltins x
 nolimit:base.NoLimit
structure Cx where
 prog:Program
 w:World
 K:Frag
 mg:Str->Option Value
 base:Heap
 A:Around
 N:List Str
 s₀:Shared
 H₀:Hp
 env:Env
 outer:List Env
 stack:List Env
 ex:List Addr
 fn:Str->Bool
 calm:Bool
 pn:List (Addr×Obj)
 xe:Value->Shared->Prop
noncomputable def frs (l:List Env):List Addr:=l.filterMap (·.frame)
abbrev Cx.fs (X:Cx):List Addr:=frs X.outer
def Vis (sc:Scope) (x:Str):Prop:=sc.names.lookup x=some .local\/sc.names.lookup x=some .cell\/sc.names.lookup x=some .free
def Loc (sc:Scope) (x:Str):Prop:=sc.names.lookup x=some .local\/sc.names.lookup x=some .cell
def VS (env:Env) (h:Heap) (m:Str->Option Value) (x:Str) (u:Value):Prop:=
 (env.kindOf x=some .local/\m x=some u)\/((env.kindOf x=some .cell\/env.kindOf x=some .free)/\∃ c,env.cells.lookup x=some c/\h.IsCell c (some u))
structure Cx.Ok (X:Cx):Prop where
 mod:Mod X.K X.mg X.base
 kind:X.env.scope.kind=.function
 glob:X.env.globals=mainGlobals
 blt:X.env.builtins=builtinsNs
 above:X.s₀.heap.objs.size<=X.env.locals
 inj:∀ x y c,X.env.cells.lookup x=some c->X.env.cells.lookup y=some c->x=y
 has:∀ x,(X.env.kindOf x=some .cell\/X.env.kindOf x=some .free)->∃ c,X.env.cells.lookup x=some c
 cab:∀ x c,X.fn x=true->X.env.cells.lookup x=some c->X.s₀.heap.objs.size<=c
 hd:X.calm=true->X.A.handled=none
 frames:X.A.frames=some X.stack
 stk:X.stack=X.outer\/(X.stack=X.env::X.outer/\X.env.frame=some X.env.locals)
 exf:∀ b∈X.ex,b≠X.env.locals/\∀ x c,X.env.cells.lookup x=some c->c≠b
 bs:∀ b o,X.base.get? b=some o->X.s₀.heap.get? b=some o/\X.H₀ b=none
 bsz:X.base.objs.size<=X.s₀.heap.objs.size
 noex:∀ b o,X.base.get? b=some o->b∉X.ex
 exfs:∀ b∈X.ex,b∉X.fs
 funs:X.s₀.heap.FunFrames X.base X.outer
 frf:∀ b∈X.fs,X.H₀ b=none
structure Inv (X:Cx) (pins:List (Addr×Obj)) (σ:List (Option V)) (H:Hp) (s:Shared):Prop where
 ok:X.Ok
 os:s.os=X.s₀.os
 bare:AllBare s.gens
 base:Un X.fs X.ex X.H₀ H X.s₀.heap s.heap
 loc:∃ m,s.heap.Ns X.env.locals m/\∀ (i:Nat) (x:Str) (v:V),X.N[i]?=some x->σ[i]?=some (some v)->Vis X.env.scope x->∃ u,RelV v u/\VS X.env s.heap m x u
 cell:∀ x c,X.env.cells.lookup x=some c->∃ v,s.heap.IsCell c v
 free:H X.env.locals=none
 freeC:∀ x c,X.env.cells.lookup x=some c->H c=none
 pin:∀ p∈X.pn++pins,s.heap.get? p.1=some p.2/\H p.1=none/\p.1≠X.env.locals/\p.1∉X.fs/\∀ v,p.2.data≠.cell v
 hok:HOk X.prog X.w H s.heap
 len:σ.length=X.N.length
variable {x:Str} {X:Cx} {pins:List (Addr×Obj)} {s s':Shared} {t' i j:Nat} {ch:List Addr} {it:Addr} {v:V}
section
variable {σ:List (Option V)}
theorem Cx.Ok.nofr (ok:X.Ok) {o:Obj} (e:X.base.get? b=some o):b∉X.fs:=fun hb=>by
 have:=(ok.funs.mem hb).1
 rw [e] at this; cases this
theorem Inv.bs (I:Inv X pins σ H s):∀ b o,X.base.get? b=some o->s.heap.get? b=some o/\H b=none:=fun b o e=>
 ⟨I.base.keep b o (I.ok.bs b o e).1 (I.ok.bs b o e).2 (I.ok.nofr e) (I.ok.noex b o e),I.base.free b o (I.ok.bs b o e).1 (I.ok.bs b o e).2 (I.ok.noex b o e)⟩
theorem Inv.bk (I:Inv X pins σ H s):∀ b o,X.base.get? b=some o->s.heap.get? b=some o:=fun b o e=>(I.bs b o e).1
theorem Inv.mod (I:Inv X pins σ H s):Mod X.K X.mg X.base:=I.ok.mod
theorem Inv.kIn (I:Inv X pins σ H s):X.K.In s.heap:=I.ok.mod.kin.keeps I.bk
theorem Inv.nolimit (I:Inv X pins σ H s):s.heap.NoLimit:=I.ok.mod.nolimit.keeps I.bk
theorem Inv.fr (I:Inv X pins σ H s):∃ m,Fr X.base X.env.locals s.heap m:=
 let ⟨m,hn,_⟩:=I.loc
 ⟨m,hn,I.bk,bU I.ok.bsz I.ok.above⟩
theorem Inv.lt (I:Inv X pins σ H s):X.env.locals < s.heap.objs.size:=let ⟨_,hn,_⟩:=I.loc; hn.lt
theorem Inv.sz (I:Inv X pins σ H s):X.s₀.heap.objs.size<=s.heap.objs.size:=bU I.ok.above (cU I.lt)
theorem Inv.nofs (I:Inv X pins σ H s) (h:s.heap.objs.size<=a):a∉X.fs:=fun hb=>by
 obtain ⟨_,o,ho,_⟩:=I.ok.funs.mem hb
 exact absurd (aD (am ho) (bU I.sz h)) (bG _)
theorem Inv.cne (I:Inv X pins σ H s):∀ x c,X.env.cells.lookup x=some c->c≠X.env.locals:=fun x c e z=>by
 obtain ⟨v,o,ho,hd⟩:=I.cell x c e
 obtain ⟨m,⟨o',es,ep,ho',hd',_⟩,_⟩:=I.loc
 rw [z,ho'] at ho; cases ho; rw [hd'] at hd; cases hd
theorem Inv.funs (I:Inv X pins σ H s):s.heap.FunFrames X.base X.outer:=by
 have all:∀ (l:List Env),(∀ b∈frs l,b∈X.fs)->X.s₀.heap.FunFrames X.base l->s.heap.FunFrames X.base l:=by
  intro l
  induction l with
  | nil=>intro _ _; trivial
  | cons env r ih=>
   intro hs hl
   obtain ⟨hk,⟨L,o,hf,hn,ho,hd⟩,hr⟩:=hl
   have hL:L∈X.fs:=hs L (by unfold frs; rw [bc,hf]; exact aw)
   obtain ⟨sl,e⟩:=I.base.slot L o ho (I.ok.frf L hL) hL fun z=>I.ok.exfs L z hL
   exact ⟨hk,⟨L,_,hf,hn,e,hd⟩,ih (fun b hb=>hs b (by unfold frs; rw [bc,hf]; exact ae _ hb)) hr⟩
 exact all X.outer (fun _ hb=>hb) I.ok.funs
theorem Inv.stack (I:Inv X pins σ H s):s.heap.FunFrames X.base X.stack:=by
 rcases I.ok.stk with e | ⟨e,hf⟩
 ·rw [e]; exact I.funs
 ·rw [e]
  obtain ⟨m,hn,_⟩:=I.loc
  refine .cons (by rw [I.ok.kind]; decide) hf hn ?_ I.funs
  exact Heap.get?_none_of_le (bU I.ok.bsz I.ok.above)
theorem Inv.stkSub (I:Inv X pins σ H s):∀ b∈frs X.stack,b∈X.env.locals::X.fs:=fun b hb=>by
 rcases I.ok.stk with e | ⟨e,hf⟩
 ·rw [e] at hb; exact ae _ hb
 ·rw [e] at hb
  unfold frs at hb
  rw [bc,hf] at hb
  exact hb
theorem Inv.stkFree (I:Inv X pins σ H s):∀ b∈frs X.stack,H b=none:=fun b hb=>by
 rcases ac.mp (I.stkSub b hb) with e | hb
 ·rw [e]; exact I.free
 ·obtain ⟨_,o,ho,_⟩:=I.ok.funs.mem hb
  exact I.base.free b o ho (I.ok.frf b hb) fun z=>I.ok.exfs b z hb
theorem Inv.step {g':Array GenState} {t':Nat} {d':Drawn} {ch:List Addr} (I:Inv X pins σ H s)
  (hch:∀ b∈ch,(b∈X.ex\/X.s₀.heap.objs.size<=b)/\b≠X.env.locals/\(∀ x c,X.env.cells.lookup x=some c->c≠b)/\∀ p∈X.pn++pins,p.1≠b)
  (keep:∀ b o,b≠X.env.locals->b∉X.fs->b∉ch->s.heap.get? b=some o->H b=none->h'.get? b=some o)
  (slot:∀ b o,b≠X.env.locals->b∈X.fs->b∉ch->s.heap.get? b=some o->H b=none->∃ sl,h'.get? b=some { o with slots:=sl }) (free:∀ b o,b∉ch->s.heap.get? b=some o->H b=none->H' b=none)
  (there:∀ b o,b∉ch->s.heap.get? b=some o->∃ o',h'.get? b=some o')
  (tups:∀ b xs,H b=some (.tup xs)->H' b=some (.tup xs)) (frzs:∀ b o u,H b=some (.frz o u)->H' b=some (.frz o u)) (tbls:∀ b ps,H b=some (.tbl ps)->∃ more,H' b=some (.tbl (ps++more)))
  (ns:∀ m,s.heap.Ns X.env.locals m->h'.Ns X.env.locals m) (hok:HOk X.prog X.w H' h') (hg:AllBare g') :
  Inv X pins σ H' { s with heap:=h',gens:=g',drawn:=d',toks:=t' }:=by
 have neL:∀ b o,X.s₀.heap.get? b=some o->b≠X.env.locals:=fun b o e=>aA (aD (am e) I.ok.above)
 have neC:∀ b o,X.s₀.heap.get? b=some o->b∉X.ex->b∉ch:=fun b o e hx hb=>by
  rcases (hch b hb).1 with z | z
  ·exact hx z
  ·exact absurd (aD (am e) z) (bG _)
 have cellK:∀ x c,X.env.cells.lookup x=some c->∀ v,s.heap.IsCell c v->h'.IsCell c v:=fun x c e v ⟨o,ho,hd⟩=>by
  have nch:c∉ch:=fun z=>(hch c z).2.2.1 x c e rfl
  by_cases hc:c∈X.fs
  ·obtain ⟨sl,q⟩:=slot c o (I.cne x c e) hc nch ho (I.freeC x c e)
   exact ⟨_,q,hd⟩
  ·exact ⟨o,keep c o (I.cne x c e) hc nch ho (I.freeC x c e),hd⟩
 refine ⟨I.ok,I.os,hg,⟨fun b o e n hb hx=>?_,fun b o e n hb hx=>?_,fun b o e n hx=>?_,fun b o e hx=>?_,fun b xs e=>tups b xs (I.base.tups b xs e),fun b o xs e=>frzs b o xs (I.base.frzs b o xs e),fun b ps e=>?_⟩,?_,fun x c e=>?_,?_,fun x c e=>?_,fun p hp=>?_,hok,I.len⟩
 ·exact keep b o (neL b o e) hb (neC b o e hx) (I.base.keep b o e n hb hx) (I.base.free b o e n hx)
 ·obtain ⟨sl,e1⟩:=I.base.slot b o e n hb hx
  obtain ⟨sl',e2⟩:=slot b _ (neL b o e) hb (neC b o e hx) e1 (I.base.free b o e n hx)
  exact ⟨sl',e2⟩
 ·obtain ⟨o',e1⟩:=I.base.there b o e hx
  exact free b o' (neC b o e hx) e1 (I.base.free b o e n hx)
 ·obtain ⟨o',e1⟩:=I.base.there b o e hx
  exact there b o' (neC b o e hx) e1
 ·obtain ⟨m1,e1⟩:=I.base.tbls b ps e
  obtain ⟨m2,e2⟩:=tbls b _ e1
  exact ⟨m1++m2,by rw [e2,Array.append_assoc]⟩
 ·obtain ⟨m,hn,hl⟩:=I.loc
  refine ⟨m,ns m hn,fun i x v e1 e2 e3=>?_⟩
  obtain ⟨u,r,l⟩:=hl i x v e1 e2 e3
  refine ⟨u,r,?_⟩
  rcases l with l | ⟨k,c,e,z⟩
  ·exact .inl l
  ·exact .inr ⟨k,c,e,cellK x c e _ z⟩
 ·obtain ⟨v,z⟩:=I.cell x c e
  exact ⟨v,cellK x c e v z⟩
 ·obtain ⟨m,⟨o,_,_,ho,_⟩,_⟩:=I.loc
  exact free _ o (fun z=>(hch _ z).2.1 rfl) ho I.free
 ·obtain ⟨v,o,ho,hd⟩:=I.cell x c e
  exact free c o (fun z=>(hch c z).2.2.1 x c e rfl) ho (I.freeC x c e)
 ·obtain ⟨e,n,ne,nf,d⟩:=I.pin p hp
  have nch:p.1∉ch:=fun z=>(hch p.1 z).2.2.2 p hp rfl
  exact ⟨keep p.1 p.2 ne nf nch e n,free p.1 p.2 nch e n,ne,nf,d⟩
theorem Inv.un (I:Inv X pins σ H s) (u:Un X.fs [] H H' s.heap h') (hok:HOk X.prog X.w H' h'):Inv X pins σ H' { s with heap:=h',toks:=t' }:=by
 obtain ⟨m,⟨o,es,ep,ho,r⟩,_⟩:=id I.loc
 obtain ⟨sl,hL⟩:=u.any ho I.free (by simp)
 exact I.step (g':=s.gens) (d':=s.drawn) (ch:=[]) (fun _ z=>nomatch z) (fun b o _ hb _ e n=>u.keep b o e n hb (by simp)) (fun b o _ hb _ e n=>u.slot b o e n hb (by simp)) (fun b o _ e n=>u.free b o e n (by simp)) (fun b o _ e=>u.there b o e (by simp)) u.tups u.frzs u.tbls (fun m' hm=>by
  obtain ⟨o',es',ep',ho',r'⟩:=hm
  rw [ho] at ho'; cases ho'
  exact ⟨_,es',ep',hL,r'⟩) hok I.bare
theorem Inv.call {g':Array GenState} {t':Nat} {d':Drawn} (I:Inv X pins σ H s) (u:Un (frs X.stack) ch H H' s.heap h') (hok:HOk X.prog X.w H' h') (hg:AllBare g')
  (hch:∀ b∈ch,(b∈X.ex\/X.s₀.heap.objs.size<=b)/\b≠X.env.locals/\(∀ x c,X.env.cells.lookup x=some c->c≠b)/\∀ p∈X.pn++pins,p.1≠b) :
  Inv X pins σ H' { s with heap:=h',gens:=g',drawn:=d',toks:=t' }:=by
 obtain ⟨m,⟨o,es,ep,ho,r⟩,_⟩:=id I.loc
 obtain ⟨sl,hL⟩:=u.any ho I.free fun z=>(hch _ z).2.1 rfl
 exact I.step (ch:=ch) hch (fun b o hL hb hc e n=>u.keep b o e n (fun z=>(ac.mp (I.stkSub b z)).elim hL hb) hc) (fun b o _ _ hc e n=>u.any e n hc) (fun b o hc e n=>u.free b o e n hc) (fun b o hc e=>u.there b o e hc) u.tups u.frzs u.tbls (fun m' hm=>by
  obtain ⟨o',es',ep',ho',r'⟩:=hm
  rw [ho] at ho'; cases ho'
  exact ⟨_,es',ep',hL,r'⟩) hok hg
theorem Inv.turned {t':Nat} (I:Inv X pins σ H s) (k:∀ b o,b≠it->s.heap.get? b=some o->h'.get? b=some o) (hn:H it=none) (hL:it≠X.env.locals)
  (h1:it∈X.ex\/X.s₀.heap.objs.size<=it) (h2:∀ x c,X.env.cells.lookup x=some c->c≠it) (h3:∀ p∈X.pn++pins,p.1≠it):Inv X pins σ H { s with heap:=h',toks:=t' }:=by
 have nit:∀ b u,H b=some u->b≠it:=fun b u e z=>by rw [z,hn] at e; cases e
 refine I.step (g':=s.gens) (d':=s.drawn) (ch:=[it]) (fun b hb=>?_) (fun b o _ _ hc e _=>k b o (fun z=>hc (by simp [z])) e) (fun b o _ _ hc e _=>⟨o.slots,k b o (fun z=>hc (by simp [z])) e⟩) (fun _ _ _ _ n=>n)
  (fun b o hc e=>⟨o,k b o (fun z=>hc (by simp [z])) e⟩) (fun _ _ e=>e) (fun _ _ _ e=>e) (fun b ps e=>⟨#[],by rw [e]; simp⟩) (fun m hm=>?_) (fun b u e=>?_) I.bare
 ·have e:b=it:=by simpa using hb
  subst e
  exact ⟨h1,hL,h2,h3⟩
 ·obtain ⟨o,es,ep,ho,r⟩:=hm
  exact ⟨o,es,ep,k _ o (aX hL) ho,r⟩
 ·refine (I.hok b u e).stay (fun c v hc q=>k c v ?_ q) (fun _ q=>q) fun _ _ q=>q
  rcases hc with z | z
  ·rw [z]; exact nit b u e
  ·exact nit c _ z
theorem Inv.tok (I:Inv X pins σ H s) (t:Nat):Inv X pins σ H { s with toks:=t }:=I.un (h':=s.heap) (t':=t) Un.refl I.hok
theorem Inv.kept (I:Inv X pins σ H s) (k:∀ b u,s.heap.get? b=some u->h'.get? b=some u):Inv X pins σ H { s with heap:=h',toks:=t' }:=I.un (Un.kept k) (I.hok.kept k)
theorem Inv.laid {t':Nat} (I:Inv X pins σ H s) (k:∀ b u,s.heap.get? b=some u->h'.get? b=some u) (hp:s.heap.objs.size<=a) (new:ObjOk X.prog X.w (upd H a o) h' a o) :
  Inv X pins σ (upd H a o) { s with heap:=h',toks:=t' }:=I.un (Un.laid k hp (I.hok.fresh hp)) (I.hok.laid k hp new)
theorem Inv.write {x e:Addr} {o:HO} {t':Nat} (I:Inv X pins σ H s) (mu:Mut (H x)) (he:e=x\/H e=some (.own x)) (k:∀ b u,b≠e->s.heap.get? b=some u->h'.get? b=some u) (heo:∃ u,h'.get? e=some u)
  (new:ObjOk X.prog X.w (upd H x o) h' x o):Inv X pins σ (upd H x o) { s with heap:=h',toks:=t' }:=I.un (Un.write mu he k heo) (I.hok.write mu he k heo new)
theorem Inv.weak {σ':List (Option V)} (I:Inv X pins σ H s) (hl:σ'.length=σ.length) (w:∀ (i:Nat) v,σ'[i]?=some (some v)->σ[i]?=some (some v)):Inv X pins σ' H s:=
 ⟨I.ok,I.os,I.bare,I.base,let ⟨m,hn,hl'⟩:=I.loc; ⟨m,hn,fun i x v e1 e2 e3=>hl' i x v e1 (w i v e2) e3⟩,I.cell,I.free,I.freeC,I.pin,I.hok,hl.trans I.len⟩
theorem Inv.pins_of {pins':List (Addr×Obj)} (I:Inv X pins σ H s) (h:∀ p∈pins',s.heap.get? p.1=some p.2/\H p.1=none/\p.1≠X.env.locals/\p.1∉X.fs/\∀ v,p.2.data≠.cell v):Inv X pins' σ H s:=
 ⟨I.ok,I.os,I.bare,I.base,I.loc,I.cell,I.free,I.freeC,fun p hp=>(ai.mp hp).elim (fun z=>I.pin p (bV _ z)) (h p),I.hok,I.len⟩
theorem Uu {N:List Str} (hN:N.Nodup) (a:N[i]?=some x) (b:N[j]?=some x):i=j:=by
 obtain ⟨h1,e1⟩:=au.mp a
 obtain ⟨h2,e2⟩:=au.mp b
 exact (ez hN).mp (e1.trans e2.symm)
theorem Ku {M:Model} {A:Around} {E:Value->Shared->Prop} {Q:Unit->Shared->Prop} (I:Inv X pins σ H s) (hN:X.N.Nodup) (hi:X.N[i]?=some x) (hx:Loc X.env.scope x) (r:RelV v u)
  (h:∀ s',Inv X pins (σ.set i (some v)) H s'->(∃ a,bD a s.heap s'.heap/\(a=X.env.locals\/X.env.cells.lookup x=some a))->Q () s') (hf:X.fn x=true\/X.env.scope.names.lookup x=some .local:=by first | exact .inl rfl | exact .inr rfl | assumption):wpAny M A (storeName X.env x u) Q E s:=by
 obtain ⟨m,hn,hl⟩:=id I.loc
 have hcls:(X.env.scope.kind == .class||(X.env.scope.kind == .module&&X.env.locals != X.env.globals))=false:=by rw [I.ok.kind]; rfl
 have hiσ:i < σ.length:=by rw [I.len]; exact (au.mp hi).1
 have cne:=I.cne
 have tracked:∀ {a:Addr} {h':Heap},(∃ o,s.heap.get? a=some o/\H a=none)->bD a s.heap h'->HOk X.prog X.w H h':=fun {a h'} ha hs b ob e=>by
  obtain ⟨_,_,hfree⟩:=ha
  refine (I.hok b ob e).stay (fun c w' hc q=>(hs.2 c ?_).trans q) (fun _ q=>q) fun _ _ q=>q
  rintro rfl
  rcases hc with rfl | hc
  ·rw [hfree] at e; cases e
  ·rw [hfree] at hc; cases hc
 rcases hx with hk | hk
 ·refine wpAny_storeName_local hk hn (fun h' hn' hs=>?_) hcls
  obtain ⟨oL,_,_,hoL,_⟩:=id hn
  refine h _ ⟨I.ok,I.os,I.bare,⟨fun b o e n hb hx=>?_,fun b o e n hb hx=>?_,I.base.free,fun b o e hx=>?_,I.base.tups,I.base.frzs,I.base.tbls⟩,⟨_,hn',fun j y v' e1 e2 e3=>?_⟩,fun y c e=>?_,I.free,I.freeC,fun p hp=>?_,tracked ⟨oL,hoL,I.free⟩ hs,by simpa using I.len⟩ ⟨_,hs,.inl rfl⟩
  ·exact (hs.2 b (aA (aD (am e) I.ok.above))).trans (I.base.keep b o e n hb hx)
  ·obtain ⟨sl,e1⟩:=I.base.slot b o e n hb hx
   exact ⟨sl,(hs.2 b (aA (aD (am e) I.ok.above))).trans e1⟩
  ·obtain ⟨o',e1⟩:=I.base.there b o e hx
   exact ⟨o',(hs.2 b (aA (aD (am e) I.ok.above))).trans e1⟩
  ·by_cases hj:j=i
   ·subst hj
    rw [hi] at e1; cases e1
    rw [aC hiσ] at e2
    cases e2
    exact ⟨u,r,.inl ⟨hk,by simp⟩⟩
   ·rw [aj (aX hj)] at e2
    obtain ⟨u',r',q⟩:=hl j y v' e1 e2 e3
    refine ⟨u',r',?_⟩
    rcases q with ⟨k,e⟩ | ⟨k,c,e,z⟩
    ·refine .inl ⟨k,?_⟩
     have:y≠x:=fun e=>hj (Uu hN e1 (e ▸ hi))
     simp [this,e]
    ·exact .inr ⟨k,c,e,z.sameBut hs (cne y c e)⟩
  ·obtain ⟨w',z⟩:=I.cell y c e
   exact ⟨w',z.sameBut hs (cne y c e)⟩
  ·obtain ⟨e,n,ne,nf,d⟩:=I.pin p hp
   exact ⟨(hs.2 p.1 ne).trans e,n,ne,nf,d⟩
 ·have hfn:X.fn x=true:=by
   rcases hf with z | z
   ·exact z
   ·rw [z] at hk; cases hk
  obtain ⟨c,hc⟩:=I.ok.has x (.inl hk)
  obtain ⟨w',z⟩:=I.cell x c hc
  refine wpAny_storeName_cell I.ok.kind hk hc z (fun h' hc' hs=>?_)
  obtain ⟨oc,hoc,hocd⟩:=id z
  refine h { s with heap:=h' } ⟨I.ok,I.os,I.bare,⟨fun b o e n hb hx=>?_,fun b o e n hb hx=>?_,I.base.free,fun b o e hx=>?_,I.base.tups,I.base.frzs,I.base.tbls⟩,⟨m,hn.sameBut hs (aX (cne x c hc)),fun j y v' e1 e2 e3=>?_⟩,fun y c' e=>?_,I.free,I.freeC,fun p hp=>?_,tracked ⟨oc,hoc,I.freeC x c hc⟩ hs,by simpa using I.len⟩ ⟨c,hs,.inr hc⟩
  ·exact (hs.2 b (aA (aD (am e) (I.ok.cab x c hfn hc)))).trans (I.base.keep b o e n hb hx)
  ·obtain ⟨sl,e1⟩:=I.base.slot b o e n hb hx
   exact ⟨sl,(hs.2 b (aA (aD (am e) (I.ok.cab x c hfn hc)))).trans e1⟩
  ·obtain ⟨o',e1⟩:=I.base.there b o e hx
   exact ⟨o',(hs.2 b (aA (aD (am e) (I.ok.cab x c hfn hc)))).trans e1⟩
  ·by_cases hj:j=i
   ·subst hj
    rw [hi] at e1; cases e1
    rw [aC hiσ] at e2
    cases e2
    exact ⟨u,r,.inr ⟨.inl hk,c,hc,hc'⟩⟩
   ·rw [aj (aX hj)] at e2
    obtain ⟨u',r',q⟩:=hl j y v' e1 e2 e3
    refine ⟨u',r',?_⟩
    rcases q with q | ⟨k,c',e,z'⟩
    ·exact .inl q
    ·refine .inr ⟨k,c',e,z'.sameBut hs ?_⟩
     rintro rfl
     exact hj (Uu hN e1 (I.ok.inj _ _ _ e hc ▸ hi))
  ·by_cases hcc:c'=c
   ·subst hcc; exact ⟨_,hc'⟩
   ·obtain ⟨w2,z2⟩:=I.cell y c' e
    exact ⟨w2,z2.sameBut hs hcc⟩
  ·obtain ⟨e,n,ne,nf,d⟩:=I.pin p hp
   refine ⟨(hs.2 p.1 ?_).trans e,n,ne,nf,d⟩
   intro q
   rw [q,hoc] at e
   have q':oc=p.2:=aK.inj e
   exact d w' (by rw [<-q']; exact hocd)
theorem Je {M:Model} {A:Around} {E:Value->Shared->Prop} {Q:Unit->Shared->Prop} (I:Inv X pins σ H s) (hN:X.N.Nodup) (hi:X.N[i]?=some x) (hx:Loc X.env.scope x) (r:RelV v u)
  (h:∀ s',Inv X pins (σ.set i (some v)) H s'->Q () s') (hf:X.fn x=true\/X.env.scope.names.lookup x=some .local:=by first | exact .inl rfl | exact .inr rfl | assumption):wpAny M A (storeName X.env x u) Q E s:=
 Ku I hN hi hx r (fun s' I' _=>h s' I') hf
theorem Inv.call' (I:Inv X pins σ H s) (ho:s'.os=s.os) (u:Un (frs X.stack) ch H H' s.heap s'.heap) (hok:HOk X.prog X.w H' s'.heap) (hg:AllBare s'.gens)
  (hch:∀ b∈ch,(b∈X.ex\/X.s₀.heap.objs.size<=b)/\b≠X.env.locals/\(∀ x c,X.env.cells.lookup x=some c->c≠b)/\∀ p∈X.pn++pins,p.1≠b):Inv X pins σ H' s':=by
 obtain ⟨h',g',d',t',o'⟩:=s'
 have e:o'=s.os:=ho
 subst e
 exact I.call (g':=g') (t':=t') (d':=d') u hok hg hch
end
abbrev XK:=Value->Option Addr->Hp->Prop
abbrev St:=List (Option V)
abbrev VK:=V->Hp->Prop
abbrev TE:=St->Hp->VK->Prop
abbrev TT:=St->Hp->(Bool->Hp->Prop)->Prop
abbrev TA:=St->Hp->(List V->Hp->Prop)->Prop
structure Ends where
 nx:St->Hp->Prop
 rt:VK
 bk:St->Hp->Prop:=fun _ _=>False
 ct:St->Hp->Prop:=fun _ _=>False
abbrev TS:=Ends->St->Hp->Prop
def EP (X:Cx) (pins:List (Addr×Obj)) (σ:St) (Q:VK) (u:Value) (s':Shared):Prop:=∃ v H',Inv X pins σ H' s'/\RelV v u/\Q v H'
def TP (X:Cx) (pins:List (Addr×Obj)) (σ:St) (Q:Bool->Hp->Prop) (b:Bool) (s':Shared):Prop:=∃ H',Inv X pins σ H' s'/\Q b H'
def AP (X:Cx) (pins:List (Addr×Obj)) (σ:St) (Q:List V->Hp->Prop) (us:List Value) (s':Shared):Prop:=∃ vs H',Inv X pins σ H' s'/\Vals vs us/\Q vs H'
def SP (X:Cx) (pins:List (Addr×Obj)) (D:Ends) (f:Flow) (s':Shared):Prop:=
 match f with
 | .next=>∃ σ' H',Inv X pins σ' H' s'/\D.nx σ' H'
 | .brk=>∃ σ' H',Inv X pins σ' H' s'/\D.bk σ' H'
 | .cont=>∃ σ' H',Inv X pins σ' H' s'/\D.ct σ' H'
 | .ret u=>∃ v σ' H',Inv X pins σ' H' s'/\RelV v u/\D.rt v H'
structure PE (X:Cx) (e:Expr) (t:TE):Prop where
 run:∀ (pins:List (Addr×Obj)) (s:Shared) (σ:St) (H:Hp) (Q:VK),Inv X pins σ H s->t σ H Q->wpAny (model X.prog X.w) X.A (eval e X.env) (EP X pins σ Q) X.xe s
instance {X:Cx} {e:Expr} {t:TE}:CoeFun (PE X e t) (fun _=>∀ (pins:List (Addr×Obj)) (s:Shared) (σ:St) (H:Hp) (Q:VK),Inv X pins σ H s->t σ H Q->wpAny (model X.prog X.w) X.A (eval e X.env) (EP X pins σ Q) X.xe s):=⟨fun h=>h.run⟩
structure PT (X:Cx) (e:Expr) (t:TT):Prop where
 run:∀ (pins:List (Addr×Obj)) (s:Shared) (σ:St) (H:Hp) (Q:Bool->Hp->Prop),Inv X pins σ H s->t σ H Q->wpAny (model X.prog X.w) X.A (isTrue e X.env (eval e X.env)) (TP X pins σ Q) X.xe s
instance {X:Cx} {e:Expr} {t:TT}:CoeFun (PT X e t) (fun _=>∀ (pins:List (Addr×Obj)) (s:Shared) (σ:St) (H:Hp) (Q:Bool->Hp->Prop),Inv X pins σ H s->t σ H Q->wpAny (model X.prog X.w) X.A (isTrue e X.env (eval e X.env)) (TP X pins σ Q) X.xe s):=⟨fun h=>h.run⟩
structure PW (X:Cx) (e:Expr) (t:TT):Prop where
 run:∀ (whole:Sem Value) (pins:List (Addr×Obj)) (s:Shared) (σ:St) (H:Hp) (Q:Bool->Hp->Prop),Inv X pins σ H s->t σ H Q->wpAny (model X.prog X.w) X.A (isTrue e X.env whole) (TP X pins σ Q) X.xe s
instance {X:Cx} {e:Expr} {t:TT}:CoeFun (PW X e t) (fun _=>∀ (whole:Sem Value) (pins:List (Addr×Obj)) (s:Shared) (σ:St) (H:Hp) (Q:Bool->Hp->Prop),Inv X pins σ H s->t σ H Q->wpAny (model X.prog X.w) X.A (isTrue e X.env whole) (TP X pins σ Q) X.xe s):=⟨fun h=>h.run⟩
variable {e:Expr}
theorem PW.pt {t:TT} (h:PW X e t):PT X e t:=⟨h.run _⟩
structure PA (X:Cx) (es:List Expr) (t:TA):Prop where
 run:∀ (pos:Pos) (pins:List (Addr×Obj)) (s:Shared) (σ:St) (H:Hp) (Q:List V->Hp->Prop),Inv X pins σ H s->t σ H Q->wpAny (model X.prog X.w) X.A (spliced (backTo pos (starEach es X.env))) (AP X pins σ Q) X.xe s
instance {X:Cx} {es:List Expr} {t:TA}:CoeFun (PA X es t) (fun _=>∀ (pos:Pos) (pins:List (Addr×Obj)) (s:Shared) (σ:St) (H:Hp) (Q:List V->Hp->Prop),Inv X pins σ H s->t σ H Q->wpAny (model X.prog X.w) X.A (spliced (backTo pos (starEach es X.env))) (AP X pins σ Q) X.xe s):=⟨fun h=>h.run⟩
structure PS (X:Cx) (st:Stmt) (t:TS):Prop where
 run:∀ (pins:List (Addr×Obj)) (s:Shared) (σ:St) (H:Hp) (D:Ends),Inv X pins σ H s->t D σ H->wpAny (model X.prog X.w) X.A (exec st X.env) (SP X pins D) X.xe s
instance {X:Cx} {st:Stmt} {t:TS}:CoeFun (PS X st t) (fun _=>∀ (pins:List (Addr×Obj)) (s:Shared) (σ:St) (H:Hp) (D:Ends),Inv X pins σ H s->t D σ H->wpAny (model X.prog X.w) X.A (exec st X.env) (SP X pins D) X.xe s):=⟨fun h=>h.run⟩
structure PSs (X:Cx) (st:List Stmt) (t:TS):Prop where
 run:∀ (pins:List (Addr×Obj)) (s:Shared) (σ:St) (H:Hp) (D:Ends),Inv X pins σ H s->t D σ H->wpAny (model X.prog X.w) X.A (execs st X.env) (SP X pins D) X.xe s
instance {X:Cx} {st:List Stmt} {t:TS}:CoeFun (PSs X st t) (fun _=>∀ (pins:List (Addr×Obj)) (s:Shared) (σ:St) (H:Hp) (D:Ends),Inv X pins σ H s->t D σ H->wpAny (model X.prog X.w) X.A (execs st X.env) (SP X pins D) X.xe s):=⟨fun h=>h.run⟩
variable {A:Around} {E:Value->Shared->Prop}
theorem thn {t:Sem α} {Q Q':α->Shared->Prop} {M:Model} (h:wpAny M A t Q E s) (hQ:∀ a s,Q a s->Q' a s):wpAny M A t Q' E s:=wpAny_mono h hQ fun _ _ x=>x
variable {σ:St} {pos:Pos} {Q:Value->Shared->Prop} {ta:TE} {c:Expr}
section
def qf8 (i:Nat):TE:=fun σ H Q=>∃ v,σ[i]?=some (some v)/\Q v H
def tC (v:V):TE:=fun _ H Q=>Q v H
theorem yb (hN:X.N[i]?=some x) (hv:Vis X.env.scope x) (hd:(x == ("__debug__":Str))=false:=by decide) (hcd:(x == ("__classdict__":Str))=false:=by decide):PE X (.Name x pos) (qf8 i):=by
 refine ⟨?_⟩
 intro pins s σ H Q I h
 obtain ⟨v,e,h⟩:=h
 obtain ⟨m,hn,hl⟩:=I.loc
 obtain ⟨u,r,l⟩:=hl i x v hN e hv
 have fin:EP X pins σ Q u s:=⟨v,H,I,r,h⟩
 rcases l with ⟨hk,hm⟩ | ⟨hk,c,hc,hcell⟩
 ·exact wpAny_Name (wpAny_loadName_local I.ok.kind hk hn hm fin) hd
 ·rcases hk with hk | hk
  ·exact wpAny_Name (wpAny_loadName_cell I.ok.kind hk hc hcell fin) hd
  ·exact wpAny_Name (wpAny_loadName_free I.ok.kind hk hc hcell fin hcd) hd
theorem qbV {i j pos}:PE X (.Constant (.int i) j pos) (tC (.int i)):=⟨fun _ _ _ H _ I h=>wpAny_Constant_int ⟨.int i,H,I.tok _,⟨_,rfl⟩,h⟩⟩
theorem qct {b j pos}:PE X (.Constant (.bool b) j pos) (tC (.bl b)):=⟨fun _ _ _ H _ I h=>Constant_bool ⟨.bl b,H,I,rfl,h⟩⟩
theorem qd1 {j pos}:PE X (.Constant .none j pos) (tC .non):=⟨fun _ _ _ H _ I h=>Constant_none ⟨.non,H,I,rfl,h⟩⟩
theorem qbW {x j pos}:PE X (.Constant (.str x) j pos) (tC (.str x)):=⟨fun _ _ _ H _ I h=>Calls.Constant_str ⟨.str x,H,I.tok _,⟨_,rfl⟩,h⟩⟩
def Gl (X:Cx) (x:Str):Prop:=X.env.kindOf x=some .globalImplicit
theorem xp {E:Value->Shared->Prop} {pos:Pos} (I:Inv X pins σ H s) (hg:Gl X x) (hm:X.mg x=some u) (h:Q u s)
  (hd:(x == ("__debug__":Str))=false:=by decide):wpAny (model X.prog X.w) X.A (eval (.Name x pos) X.env) Q E s:=
 Calls.Name_function_global I.ok.kind hg (Calls.loadGlobal_global (by rw [I.ok.glob]; exact I.mod.glob.keeps I.bk) hm h) hd
theorem zX {E:Value->Shared->Prop} {pos:Pos} (I:Inv X pins σ H s) (hg:Gl X x) (hm:X.mg x=none) (hv:bootBuiltins x=some u) (h:Q u s)
  (hn:x ≠ "__name__":=by decide) (hd:(x == ("__debug__":Str))=false:=by decide):wpAny (model X.prog X.w) X.A (eval (.Name x pos) X.env) Q E s:=by
 obtain ⟨mb,h1,h2⟩:=I.mod.blt
 exact Calls.Name_function_global I.ok.kind hg (Calls.loadGlobal_builtin (by rw [I.ok.glob]; exact I.mod.glob.keeps I.bk) hm (by rw [I.ok.blt]; exact h1.keeps I.bk) ((h2 x hn).trans hv) h) hd
theorem XB (hg:Gl X x) (hm:X.mg x=some u) (r:RelV v u) (hd:(x == ("__debug__":Str))=false:=by decide):PE X (.Name x pos) (tC v):=⟨fun _ _ _ H _ I h=>xp I hg hm ⟨v,H,I,r,h⟩ hd⟩
theorem XC (hg:Gl X x) (hm:X.mg x=none) (hv:bootBuiltins x=some u) (r:RelV v u) (hn:x ≠ "__name__":=by decide) (hd:(x == ("__debug__":Str))=false:=by decide):PE X (.Name x pos) (tC v):=⟨fun _ _ _ H _ I h=>zX I hg hm hv ⟨v,H,I,r,h⟩ hn hd⟩
variable {a b:Expr} {tb:TE}
variable {tA tB':TT} {rest:List Expr}
def qhw (t u:TT):TT:=fun σ H Q=>t σ H fun c H1=>if c=true then u σ H1 Q else Q false H1
def tOr (t u:TT):TT:=fun σ H Q=>t σ H fun c H1=>if c=true then Q true H1 else u σ H1 Q
def qhx (t:TT):TT:=fun σ H Q=>t σ H fun c H1=>Q (!c) H1
theorem qcu (ha:PT X a tA):PW X (.BoolOp .And [a] pos) tA:=by
 refine ⟨?_⟩
 intro wh pins s σ H Q I h
 refine isTrue_and (thn (ha pins s σ H Q I h) fun c s1 e=>?_)
 cases c with
 | true=>exact isTrue_and_nil e
 | false=>exact e
theorem qd2 (ha:PT X a tA):PW X (.BoolOp .Or [a] pos) tA:=by
 refine ⟨?_⟩
 intro wh pins s σ H Q I h
 refine isTrue_or (thn (ha pins s σ H Q I h) fun c s1 e=>?_)
 cases c with
 | false=>exact isTrue_or_nil e
 | true=>exact e
theorem qd3 (ha:PT X a tA) (hb:PW X (.BoolOp .And (b::rest) pos) tB'):PW X (.BoolOp .And (a::b::rest) pos) (qhw tA tB'):=by
 refine ⟨?_⟩
 intro wh pins s σ H Q I h
 refine isTrue_and (thn (ha pins s σ H _ I h) fun c s1 ⟨H1,I1,q1⟩=>?_)
 cases c with
 | true=>exact hb wh pins s1 σ H1 Q I1 q1
 | false=>exact ⟨H1,I1,q1⟩
theorem qf9 (ha:PT X a tA) (hb:PW X (.BoolOp .Or (b::rest) pos) tB'):PW X (.BoolOp .Or (a::b::rest) pos) (tOr tA tB'):=by
 refine ⟨?_⟩
 intro wh pins s σ H Q I h
 refine isTrue_or (thn (ha pins s σ H _ I h) fun c s1 ⟨H1,I1,q1⟩=>?_)
 cases c with
 | true=>exact ⟨H1,I1,q1⟩
 | false=>exact hb wh pins s1 σ H1 Q I1 q1
theorem qd4 (ha:PT X a tA):PT X (.UnaryOp .Not a pos) (qhx tA):=by
 refine ⟨?_⟩
 intro pins s σ H Q I h
 exact isTrue_not (ha pins s σ H (fun c H1=>Q (!c) H1) I h)
def qga (ta tb:TE):TE:=fun σ H Q=>ta σ H fun x H1=>∃ c,x=.bl c/\if c=true then tb σ H1 Q else Q (.bl false) H1
theorem qd5 {op} {t:TE} (h:PE X a t):PE X (.BoolOp op [a] pos) t:=⟨fun pins s σ H Q I hw=>BoolOp_one (h pins s σ H Q I hw)⟩
theorem qd6 (ha:PE X a ta) (hb:PE X (.BoolOp .And (b::rest) pos) tb):PE X (.BoolOp .And (a::b::rest) pos) (qga ta tb):=by
 refine ⟨?_⟩
 intro pins s σ H Q I h
 refine BoolOp_and (thn (ha pins s σ H _ I h) fun v s1 ⟨x,H1,I1,r1,q1⟩=>?_)
 obtain ⟨c,rfl,q1⟩:=q1
 cases r1
 refine wpAny_truthy_bool ?_
 cases c with
 | true=>exact hb pins s1 σ H1 Q I1 q1
 | false=>exact ⟨.bl false,H1,I1,rfl,q1⟩
def tIf (t:TT) (ta tb:TE):TE:=fun σ H Q=>t σ H fun c H1=>if c=true then ta σ H1 Q else tb σ H1 Q
theorem qau (hc:PT X c tA) (ha:PE X a ta) (hb:PE X b tb):PE X (.IfExp c a b pos) (tIf tA ta tb):=by
 refine ⟨?_⟩
 intro pins s σ H Q I h
 refine wpAny_IfExp (thn (hc pins s σ H _ I h) fun d s1 ⟨H1,I1,q1⟩=>?_)
 cases d with
 | true=>exact ha pins s1 σ H1 Q I1 q1
 | false=>exact hb pins s1 σ H1 Q I1 q1
end
def SqL (K:Frag) (H:Hp) (a:Addr) (xs:List V):Prop:=
 Rd H a (.lst xs) \/
  ∃ (o:Obj) (its:Array Value) (n:Nat),K.lookup a=some o/\o.cls=.type "list"/\o.dict=none/\o.data=.seq its n/\its.size<=sizeLine/\Vals xs its.toList
def SqT (K:Frag) (H:Hp) (a:Addr) (xs:List V):Prop:=
 Rd H a (.tup xs) \/
  ∃ (o:Obj) (its:Array Value) (n:Nat),K.lookup a=some o/\(o.cls=.type "tuple"/\o.dict=none)/\o.data=.seq its n/\its.size<=sizeLine/\Vals xs its.toList
noncomputable def qhy:Value->Option V
 | .none=>some .non
 | .bool b=>some (.bl b)
 | .int i _=>some (.int i)
 | .str x _=>some (.str x)
 | .bytes b _=>some (.byt b)
 | .float b _=>some (.flt b)
 | .ref a=>some (.ref a)
 | .type n=>some (.ty n)
 | _=>none
theorem RelV.abs {x:V} (r:RelV x u):qhy u=some x:=by
 cases x with
 | non=>cases r; rfl
 | bl _=>cases r; rfl
 | int _=>obtain ⟨t,rfl⟩:=r; rfl
 | str _=>obtain ⟨t,rfl⟩:=r; rfl
 | byt _=>obtain ⟨t,rfl⟩:=r; rfl
 | flt _=>obtain ⟨t,rfl⟩:=r; rfl
 | ref _=>cases r; rfl
 | ty _=>cases r; rfl
theorem RelV.inj {x y:V} (r:RelV x u) (q:RelV y u):x=y:=aK.inj (r.abs.symm.trans q.abs)
theorem Vals.inj:∀ {xs ys:List V} {us:List Value},Vals xs us->Vals ys us->xs=ys
 | _,_,_,.nil,.nil=>rfl
 | _,_,_,.cons r t,.cons r' t'=>by rw [r.inj r',Vals.inj t t']
variable {K:Frag}
section
variable {ys:List V}
theorem SqT.of (h:H a=some (.tup xs)):SqT K H a xs:=.inl (.inl h)
theorem Inv.list (I:Inv X pins σ H s) (h:SqL X.K H a xs):∃ its:List Value,Vals xs its/\PlainL s.heap a its.toArray/\xs.length<=sizeLine:=by
 rcases h with h | ⟨o,its,n,hk,hc,hd,hs,hz,r⟩
 ·obtain ⟨z,its,n,r,e⟩:=h.ok I.hok
  exact ⟨its,r,⟨_,n,e,rfl,rfl,rfl⟩,z⟩
 ·refine ⟨its.toList,r,⟨o,n,I.kIn a o hk,hc,hd,by simpa using hs⟩,?_⟩
  have e:=r.length
  simp only [bz] at e
  omega
theorem Inv.tuple (I:Inv X pins σ H s) (h:SqT X.K H a xs):∃ its:List Value,Vals xs its/\IsTup s.heap a its.toArray/\xs.length<=sizeLine:=by
 rcases h with h | ⟨o,its,n,hk,hc,hs,hz,r⟩
 ·obtain ⟨⟨z,_⟩,its,r,p⟩:=h.ok I.hok
  exact ⟨its,r,p,z⟩
 ·refine ⟨its.toList,r,⟨o,I.kIn a o hk,hc.1,n,by simpa using hs⟩,?_⟩
  have e:=r.length
  simp only [bz] at e
  omega
theorem Inv.list_inj (I:Inv X pins σ H s) (h:SqL X.K H a xs) (h':SqL X.K H a ys):xs=ys:=by
 obtain ⟨its,r,⟨o,n,e,_,_,d⟩,_⟩:=I.list h
 obtain ⟨its',r',⟨o',n',e',_,_,d'⟩,_⟩:=I.list h'
 rw [e] at e'; cases e'
 rw [d] at d'
 injection d' with d1 _
 have:its=its':=by simpa using congrArg Array.toList d1
 subst this
 exact r.inj r'
theorem Inv.tuple_inj (I:Inv X pins σ H s) (h:SqT X.K H a xs) (h':SqT X.K H a ys):xs=ys:=by
 obtain ⟨its,r,⟨o,e,_,n,d⟩,_⟩:=I.tuple h
 obtain ⟨its',r',⟨o',e',_,n',d'⟩,_⟩:=I.tuple h'
 rw [e] at e'; cases e'
 rw [d] at d'
 injection d' with d1 _
 have:its=its':=by simpa using congrArg Array.toList d1
 subst this
 exact r.inj r'
end
variable {te:TE} {tc:TT}
section
variable {st:Stmt} {rest:List Stmt} {t u:TS}
def qgb:TS:=fun D σ H=>D.nx σ H
def qhz (t u:TS):TS:=fun D σ H=>t { D with nx:=u D } σ H
theorem Wc:PSs X [] qgb:=⟨fun _ _ σ H _ I h=>wpAny_execs_nil ⟨σ,H,I,h⟩⟩
theorem qav (h1:PS X st t) (h2:PSs X rest u):PSs X (st::rest) (qhz t u):=by
 refine ⟨?_⟩
 intro pins s σ H D I h
 refine wpAny_execs_cons (thn (h1 pins s σ H { D with nx:=u D } I h) fun f s1 q=>?_)
 cases f with
 | next=>
  obtain ⟨σ',H',I',q⟩:=q
  exact h2 pins s1 σ' H' D I' q
 | ret v=>exact q
 | brk=>exact q
 | cont=>exact q
theorem qcv (h1:PS X st t):PSs X [st] t:=by
 refine ⟨?_⟩
 intro pins s σ H D I h
 refine wpAny_execs_cons (thn (h1 pins s σ H D I h) fun f s1 q=>?_)
 cases f with
 | next=>exact wpAny_execs_nil q
 | ret v=>exact q
 | brk=>exact q
 | cont=>exact q
theorem Inv.quiet (I:Inv X pins σ H s):interactive X.env=false:=by simp [interactive,I.ok.kind]
def qgc (te:TE):TS:=fun D σ H=>te σ H fun _ H1=>D.nx σ H1
theorem qcw (he:PE X e te) (hs:swapsWith e none pos.line X.env=pure false:=by rfl):PS X (.Expr e pos) (qgc te):=by
 refine ⟨?_⟩
 intro pins s σ H D I h
 exact wpAny_Expr_any (thn (he pins s σ H _ I h) fun v s1 ⟨x,H1,I1,r1,q1⟩=>⟨σ,H1,I1,q1⟩) I.quiet hs
def qhA (te:TE):TS:=fun D σ H=>te σ H D.rt
theorem qd7 (he:PE X e te):PS X (.Return (some e) pos) (qhA te):=by
 refine ⟨?_⟩
 intro pins s σ H D I h
 exact wpAny_Return_some (thn (he pins s σ H _ I h) fun v s1 ⟨x,H1,I1,r1,q1⟩=>⟨x,σ,H1,I1,r1,q1⟩)
def qhB (c:TT) (t u:TS):TS:=fun D σ H=>c σ H fun b H1=>if b=true then t D σ H1 else u D σ H1
theorem qgd {a b:List Stmt} (hc:PT X c tc) (ha:PSs X a t) (hb:PSs X b u):PS X (.If c a b pos) (qhB tc t u):=by
 refine ⟨?_⟩
 intro pins s σ H D I h
 refine wpAny_If (thn (hc pins s σ H _ I h) fun d s1 ⟨H1,I1,q1⟩=>?_)
 cases d with
 | true=>exact ha pins s1 σ H1 D I1 q1
 | false=>exact hb pins s1 σ H1 D I1 q1
end
abbrev TG:=V->St->Hp->(St->Hp->Prop)->Prop
abbrev TGs:=List V->St->Hp->(St->Hp->Prop)->Prop
structure PG (X:Cx) (target:Expr) (t:TG):Prop where
 run:∀ (pins:List (Addr×Obj)) (s:Shared) (σ:St) (H:Hp) (v:V) (u:Value) (Q:St->Hp->Prop),Inv X pins σ H s->RelV v u->t v σ H Q ->
  wpAny (model X.prog X.w) X.A (assign target X.env u) (fun _ s'=>∃ σ' H',Inv X pins σ' H' s'/\Q σ' H') X.xe s
instance {X:Cx} {target:Expr} {t:TG}:CoeFun (PG X target t) (fun _=>∀ (pins:List (Addr×Obj)) (s:Shared) (σ:St) (H:Hp) (v:V) (u:Value) (Q:St->Hp->Prop),Inv X pins σ H s->RelV v u->t v σ H Q ->
  wpAny (model X.prog X.w) X.A (assign target X.env u) (fun _ s'=>∃ σ' H',Inv X pins σ' H' s'/\Q σ' H') X.xe s):=⟨fun h=>h.run⟩
structure PGs (X:Cx) (ts:List Expr) (t:TGs):Prop where
 run:∀ (pins:List (Addr×Obj)) (s:Shared) (σ:St) (H:Hp) (vs:List V) (us:List Value) (Q:St->Hp->Prop),Inv X pins σ H s->Vals vs us->t vs σ H Q ->
  wpAny (model X.prog X.w) X.A (assignInOrder ((assignEach ts X.env).map (·.2)) us) (fun _ s'=>∃ σ' H',Inv X pins σ' H' s'/\Q σ' H') X.xe s
instance {X:Cx} {ts:List Expr} {t:TGs}:CoeFun (PGs X ts t) (fun _=>∀ (pins:List (Addr×Obj)) (s:Shared) (σ:St) (H:Hp) (vs:List V) (us:List Value) (Q:St->Hp->Prop),Inv X pins σ H s->Vals vs us->t vs σ H Q ->
  wpAny (model X.prog X.w) X.A (assignInOrder ((assignEach ts X.env).map (·.2)) us) (fun _ s'=>∃ σ' H',Inv X pins σ' H' s'/\Q σ' H') X.xe s):=⟨fun h=>h.run⟩
abbrev qge:=V->V->V->Hp->(Hp->Prop)->Prop
def qg0 (X:Cx) (t:qge):Prop:=
 ∀ (pins:List (Addr×Obj)) (s:Shared) (σ:St) (H:Hp) (o i v:V) (ov iv u:Value) (Q:Hp->Prop),Inv X pins σ H s->RelV o ov->RelV i iv->RelV v u->t o i v H Q ->
  wpAny (model X.prog X.w) X.A (setItem ov iv u) (fun _ s'=>∃ H',Inv X pins σ H' s'/\Q H') X.xe s
variable {es:List Expr} {tg:Expr}
section
def qd8 (i:Nat):TG:=fun v σ H Q=>Q (σ.set i (some v)) H
theorem qcx (hN:X.N.Nodup) (hi:X.N[i]?=some x) (hx:Loc X.env.scope x) (hf:X.fn x=true\/X.env.scope.names.lookup x=some .local:=by first | exact .inl rfl | exact .inr rfl | assumption):PG X (.Name x pos) (qd8 i):=by
 refine ⟨?_⟩
 intro pins s σ H v u Q I r h
 exact wpAny_assign_Name (Je I hN hi hx r (fun s' I'=>⟨_,H,I',h⟩) hf)
def qhC:TGs:=fun vs σ H Q=>vs=[]/\Q σ H
def qgf (t:TG) (u:TGs):TGs:=fun vs σ H Q=>∃ v r,vs=v::r/\t v σ H fun σ' H'=>u r σ' H' Q
theorem qcy:PGs X [] qhC:=by
 refine ⟨?_⟩
 intro pins s σ H vs us Q I r h
 obtain ⟨e,h⟩:=h
 subst e
 cases r
 exact assignInOrder_nil ⟨σ,H,I,h⟩
theorem qaw {t:TG} {u:TGs} (h1:PG X e t) (h2:PGs X es u)
  (hs:(assignEach (e::es) X.env).map (·.2)=assign e X.env::(assignEach es X.env).map (·.2):=by rfl):PGs X (e::es) (qgf t u):=by
 refine ⟨?_⟩
 intro pins s σ H vs us Q I r h
 obtain ⟨v,vr,e1,h⟩:=h
 subst e1
 cases r with
 | cons r rr=>
  rw [hs]
  refine assignInOrder_cons (thn (h1 pins s σ H _ _ _ I r h) fun _ s1 ⟨σ1,H1,I1,q1⟩=>?_)
  exact h2 pins s1 σ1 H1 _ _ Q I1 rr q1
def qhD (K:Frag) (n:Nat) (t:TGs):TG:=fun v σ H Q=>∃ a xs,v=.ref a/\SqT K H a xs/\xs.length=n/\t xs σ H Q
theorem qd9 {k:Nat} {t:TGs} {n:Nat} (hc:X.calm=true) (h:PGs X es t)
  (hn:(assignEach es X.env).length=n:=by rfl) (hst:(assignEach es X.env).findIdx? (·.1)=none:=by rfl):PG X (.Tuple es k pos) (qhD X.K n t):=by
 refine ⟨?_⟩
 intro pins s σ H v u Q I r hw
 obtain ⟨a,xs,e1,hq,hl,hw⟩:=hw
 subst e1
 cases r
 obtain ⟨its,rv,ht,hz⟩:=I.tuple hq
 refine assign_Tuple_tuple (I.ok.hd hc) ht (by simp [hn,<-hl,rv.length]) hst fun h' hx=>?_
 have I1:Inv X pins σ H { s with heap:=h' }:=I.kept (t':=s.toks) fun b o e=>hx b o (aA (am e)) e
 exact h pins _ σ H xs _ Q I1 (by simpa using rv) hw
def qhE (to ti:TE) (t:qge):TG:=fun v σ H Q=>to σ H fun o H1=>ti σ H1 fun i H2=>t o i v H2 fun H3=>Q σ H3
theorem qea {o i:Expr} {to ti:TE} {t:qge} (ho:PE X o to) (hi:PE X i ti) (hs:qg0 X t)
  (ha:∀ v,assign (.Subscript o i pos) X.env v=(do
   let ov <-holding [v] (eval o X.env)
   let iv <-holding [v,ov] (eval i X.env)
   standAt pos
   holding [v,ov,iv] (setItem ov iv v)
   release [v,ov,iv] []):=by intro _; rfl):PG X (.Subscript o i pos) (qhE to ti t):=by
 refine ⟨?_⟩
 intro pins s σ H v u Q I r h
 rw [ha]
 refine wpAny_bind (wpAny_holding (thn (ho pins s σ H _ I h) fun ov s1 ⟨x,H1,I1,r1,q1⟩=>?_))
 refine wpAny_bind (wpAny_holding (thn (hi pins s1 σ H1 _ I1 q1) fun iv s2 ⟨y,H2,I2,r2,q2⟩=>?_))
 refine wpAny_bind (wpAny_standAt (wpAny_bind (wpAny_holding (thn (hs pins s2 σ H2 x y v ov iv u _ I2 r1 r2 r q2) fun _ s3 ⟨H3,I3,q3⟩=>?_))))
 exact wpAny_release ⟨σ,H3,I3,q3⟩
def qg1 (te:TE) (g:TG):TS:=fun D σ H=>te σ H fun x H1=>g x σ H1 D.nx
theorem qbX {g:TG} (he:PE X e te) (hg:PG X tg g) (hs:swapsWithSole [tg] e pos.line X.env=pure false:=by rfl) (hw:swappedStores [tg] e X.env=pure none:=by rfl)
  (h1:(assignEach [tg] X.env).map (·.2)=[assign tg X.env]:=by rfl):PS X (.Assign [tg] e pos) (qg1 te g):=by
 refine ⟨?_⟩
 intro pins s σ H D I h
 refine wpAny_Assign_stores (thn (he pins s σ H _ I h) fun v s1 ⟨x,H1,I1,r1,q1⟩=>?_) hs hw
 rw [h1]
 exact thn (hg pins s1 σ H1 x v _ I1 r1 q1) fun _ s2 q=>q
theorem qbY {pos':Pos} (hN:X.N.Nodup) (hi:X.N[i]?=some x) (hx:Loc X.env.scope x) (he:PE X e te) (hs:swapsWith e (some (.Name x pos')) pos.line X.env=pure false:=by rfl) (hf:X.fn x=true\/X.env.scope.names.lookup x=some .local:=by first | exact .inl rfl | exact .inr rfl | assumption) :
  PS X (.Assign [.Name x pos'] e pos) (qg1 te (qd8 i)):=by
 refine ⟨?_⟩
 intro pins s σ H D I h
 refine wpAny_Assign_Name (thn (he pins s σ H _ I h) fun v s1 ⟨y,H1,I1,r1,q1⟩=>?_) hs
 exact Je I1 hN hi hx r1 (fun s2 I2=>⟨_,H1,I2,q1⟩) hf
end
variable {tb:TS} {body:List Stmt}
section
def qeb (c:TT) (tb:TS):TS:=fun D σ H=>∃ W:Nat->St->Hp->Prop,(∃ m,W m σ H)/\∀ m σ H,W m σ H ->
 c σ H fun b H1=>if b=true then ∃ N:St->Hp->Prop,(∀ σ' H',N σ' H'->∃ m',m' < m/\W m' σ' H')/\tb { D with nx:=N,ct:=N,bk:=D.nx } σ H1 else D.nx σ H1
theorem qax (hp:PassesOwn (model X.prog X.w) X.A X.env X.xe) (hc:PT X c tc) (hb:PSs X body tb):PS X (.While c body [] pos) (qeb tc tb):=by
 refine ⟨?_⟩
 intro pins s σ H D I h
 obtain ⟨W,⟨m0,w0⟩,turn⟩:=h
 refine wpAny_While (codeAny_whileLoop (fun n s'=>∃ σ' H',Inv X pins σ' H' s'/\W n σ' H') ?_ m0 ⟨σ,H,I,w0⟩)
 rintro n s1 ⟨σ1,H1,I1,w1⟩
 refine wpAny_passesOwn hp (thn (hc pins s1 σ1 H1 _ I1 (turn n σ1 H1 w1)) fun b s2 ⟨H2,I2,q2⟩=>?_)
 cases b with
 | true=>
  obtain ⟨N,hN,q2⟩:=q2
  rw [if_pos rfl]
  refine wpAny_passesOwn hp (thn (hb pins s2 σ1 H2 _ I2 q2) fun f s3 q3=>?_)
  cases f with
  | next=>
   obtain ⟨σ3,H3,I3,n3⟩:=q3
   obtain ⟨m',hm,w3⟩:=hN σ3 H3 n3
   exact ⟨m',hm,σ3,H3,I3,w3⟩
  | cont=>
   obtain ⟨σ3,H3,I3,n3⟩:=q3
   obtain ⟨m',hm,w3⟩:=hN σ3 H3 n3
   exact ⟨m',hm,σ3,H3,I3,w3⟩
  | brk=>exact q3
  | ret v=>exact q3
 | false=>
  rw [if_neg aY]
  exact wpAny_execs_nil ⟨σ1,H2,I2,q2⟩
end
structure It where
 go:Nat->Hp->Prop
 yld:Nat->Hp->V->Hp->Prop
 stop:Nat->Hp->Prop
def VT (X:Cx) (pins:List (Addr×Obj)) (H:Hp) (b:Addr):Prop:=
 H b=none/\b≠X.env.locals/\b∉X.fs/\(b∈X.ex\/X.s₀.heap.objs.size<=b)/\(∀ x c,X.env.cells.lookup x=some c->c≠b)/\∀ p∈X.pn++pins,p.1≠b
theorem Inv.fpOk (I:Inv X pins σ H s) (hb:s.heap.objs.size<=b) (hn:H' b=none):VT X pins H' b:=by
 refine ⟨hn,cz (aD I.lt hb),I.nofs hb,.inr (bU I.sz hb),fun x c e z=>?_,fun p hp z=>?_⟩
 ·obtain ⟨v,q⟩:=I.cell x c e
  exact absurd (aD q.lt (by rw [z]; exact hb)) (bG _)
 ·exact absurd (aD (am (I.pin p hp).1) (by rw [z]; exact hb)) (bG _)
structure Turn (P:Program) (w:World) (K:Frag) (tg:Expr) (J:It) (fp:List Addr) (it:Addr) (tn:Nat->Heap->Prop):Prop where
 mem:it∈fp
 obj:∀ i h,tn i h->∀ b∈fp,∃ o,h.get? b=some o/\∀ v,o.data≠.cell v
 keep:∀ i h h',tn i h->(∀ b∈fp,∀ o,h.get? b=some o->h'.get? b=some o)->tn i h'
 item:∀ (X:Cx),X.prog=P->X.w=w->X.K=K->X.calm=true->∀ (i:Nat) (pins:List (Addr×Obj)) (s:Shared) (σ:St) (H:Hp) (E:Value->Shared->Prop),Inv X pins σ H s->(∀ b∈fp,VT X pins H b)->tn i s.heap->J.go i H ->
  wpAny (model P w) X.A (pyNext (.ref it)) (fun r s1=>∃ u,r=some u /\
   wpAny (model P w) X.A (letOwnedTupleGo tg (.ref it) u) (fun _ s2=>∃ x H',Inv X pins σ H' s2/\RelV x u/\J.yld i H x H'/\tn (i+1) s2.heap/\∀ b∈fp,H' b=none) E s1) E s
 done:∀ (X:Cx),X.prog=P->X.w=w->X.K=K->X.calm=true->∀ (i:Nat) (pins:List (Addr×Obj)) (s:Shared) (σ:St) (H:Hp) (E:Value->Shared->Prop),Inv X pins σ H s->(∀ b∈fp,VT X pins H b)->tn i s.heap->J.stop i H ->
  wpAny (model P w) X.A (pyNext (.ref it)) (fun r s1=>r=none/\Inv X pins σ H s1) E s
 self:∀ (A:Around) (i:Nat) (s:Shared) (Q:Value->Shared->Prop) (E:Value->Shared->Prop),tn i s.heap->Q (.ref it) s->wpAny (model P w) A (pyIter (.ref it)) Q E s
abbrev TI:=St->Hp->(It->Hp->Prop)->Prop
def PIE (X:Cx) (pins:List (Addr×Obj)) (σ:St) (tg:Expr) (R:It->Hp->Prop) (itv:Value) (s2:Shared):Prop:=
 ∃ (it:Addr) (fp:List Addr) (tn:Nat->Heap->Prop) (J:It) (H':Hp),itv=.ref it/\Inv X pins σ H' s2/\Turn X.prog X.w X.K tg J fp it tn/\tn 0 s2.heap/\(∀ b∈fp,VT X pins H' b)/\R J H'
structure PI (X:Cx) (tg iter:Expr) (wi:TI):Prop where
 run:∀ (pins:List (Addr×Obj)) (s:Shared) (σ:St) (H:Hp) (R:It->Hp->Prop),Inv X pins σ H s->wi σ H R ->
  wpAny (model X.prog X.w) X.A (eval iter X.env) (fun v s1=>wpAny (model X.prog X.w) X.A (pyIter v) (PIE X pins σ tg R) X.xe s1) X.xe s
instance {X:Cx} {tg iter:Expr} {wi:TI}:CoeFun (PI X tg iter wi) (fun _=>∀ (pins:List (Addr×Obj)) (s:Shared) (σ:St) (H:Hp) (R:It->Hp->Prop),Inv X pins σ H s->wi σ H R ->
  wpAny (model X.prog X.w) X.A (eval iter X.env) (fun v s1=>wpAny (model X.prog X.w) X.A (pyIter v) (PIE X pins σ tg R) X.xe s1) X.xe s):=⟨fun h=>h.run⟩
theorem qay {M:Model} {A:Around} {E:Value->Shared->Prop} {tg:Expr} {u:Value} {o:Obj} {n:String} {vs:Array Value} {Q:Unit->Shared->Prop} (ho:s.heap.get? it=some o) (hc:o.cls=.type n) (hd:o.data=.fields vs)
    (hn:["enumerate", "zip", "dict_itemiterator", "dict_reverseitemiterator", "odict_iterator", "itertools.zip_longest", "itertools.pairwise"].contains n=false) (hQ:Q () s):wpAny M A (letOwnedTupleGo tg (.ref it) u) Q E s:=by
  unfold letOwnedTupleGo
  cases tg <;> first
    | exact wpAny_pure hQ
    | (cases u <;> first
        | exact wpAny_pure hQ
        | (refine wpAny_bind (wpAny_load ho ?_)
           rw [hc,hd]
           show wpAny M A (if (["enumerate", "zip", "dict_itemiterator", "dict_reverseitemiterator", "odict_iterator", "itertools.zip_longest", "itertools.pairwise"].contains n&&vs[0]? == some (rawInt _))=true then _ else _) Q E s
           rw [if_neg (by intro h; rw [hn,Bool.false_and] at h; cases h)]
           exact wpAny_pure hQ))
noncomputable def Itl (K:Frag) (a:Addr):It:=
 ⟨fun i H=>∃ xs x,SqL K H a xs/\xs[i]?=some x,fun i H x H'=>H'=H/\∀ xs,SqL K H a xs->xs[i]?=some x,fun i H=>∃ xs,SqL K H a xs/\xs.length<=i⟩
noncomputable def Itt (K:Frag) (a:Addr):It:=
 ⟨fun i H=>∃ xs x,SqT K H a xs/\xs[i]?=some x,fun i H x H'=>H'=H/\∀ xs,SqT K H a xs->xs[i]?=some x,fun i H=>∃ xs,SqT K H a xs/\xs.length<=i⟩
noncomputable def Itr (lo:Int) (n:Nat):It:=⟨fun i _=>i < n,fun i H x H'=>H'=H/\x=.int (lo+i),fun i _=>n<=i⟩
theorem XD (a it:Addr):Turn P w K tg (Itl K a) [it] it (fun i h=>h.IsListIter it a i) where
 mem:=by simp
 obj:=fun i h st b hb=>by
  have e:b=it:=by simpa using hb
  subst e
  obtain ⟨o,e,c,d⟩:=st
  exact ⟨o,e,fun v z=>by rw [d] at z; cases z⟩
 keep:=fun i h h' st k=>st.at fun o e=>k it (by simp) o e
 item:=by
  intro X hP hw hK hc i pins s σ H E I hf st hg
  subst hP hw hK
  obtain ⟨xs,x,hq,hx⟩:=hg
  obtain ⟨its,rv,p,hz⟩:=I.list hq
  obtain ⟨u,hu,ru⟩:=rv.get hx
  obtain ⟨f0,f1,f2,f3,f4,f5⟩:=hf it (by simp)
  refine wpAny_pyNext_list_item st p.isList (x:=u) (by simpa using hu) fun h' st' sb=>?_
  have I1:Inv X pins σ H { s with heap:=h' }:=I.turned (t':=s.toks) (fun b o hb e=>(sb.2 b hb).trans e) f0 f1 f3 f4 f5
  obtain ⟨o,e,c,d⟩:=id st'
  exact ⟨u,rfl,qay (s:={ s with heap:=h' }) e c d (by decide) ⟨x,H,I1,ru,⟨rfl,fun ys hy=>by rw [I.list_inj hy hq]; exact hx⟩,st',fun b hb=>(hf b hb).1⟩⟩
 done:=by
  intro X hP hw hK hc i pins s σ H E I hf st hg
  subst hP hw hK
  obtain ⟨xs,hq,hx⟩:=hg
  obtain ⟨its,rv,p,hz⟩:=I.list hq
  obtain ⟨f0,f1,f2,f3,f4,f5⟩:=hf it (by simp)
  have hl:=rv.length
  exact wpAny_pyNext_list_end (I.ok.hd hc) st p.isList (by simp; omega) fun h' eb=>⟨rfl,I.turned (t':=s.toks) (fun b o hb e=>eb b o hb e) f0 f1 f3 f4 f5⟩
 self:=fun _ _ _ _ _ st h=>wpAny_pyIter_listiter st h
theorem YC (a it:Addr):Turn P w K tg (Itt K a) [it] it (fun i h=>h.IsTupleIter it a i) where
 mem:=by simp
 obj:=fun i h st b hb=>by
  have e:b=it:=by simpa using hb
  subst e
  obtain ⟨o,e,c,d⟩:=st
  exact ⟨o,e,fun v z=>by rw [d] at z; cases z⟩
 keep:=fun i h h' st k=>st.at fun o e=>k it (by simp) o e
 item:=by
  intro X hP hw hK hc i pins s σ H E I hf st hg
  subst hP hw hK
  obtain ⟨xs,x,hq,hx⟩:=hg
  obtain ⟨its,rv,p,hz⟩:=I.tuple hq
  obtain ⟨u,hu,ru⟩:=rv.get hx
  obtain ⟨f0,f1,f2,f3,f4,f5⟩:=hf it (by simp)
  refine wpAny_pyNext_tuple_item st (show s.heap.IsTuple a its.toArray from p) (x:=u) (by simpa using hu) fun h' st' sb=>?_
  have I1:Inv X pins σ H { s with heap:=h' }:=I.turned (t':=s.toks) (fun b o hb e=>(sb.2 b hb).trans e) f0 f1 f3 f4 f5
  obtain ⟨o,e,c,d⟩:=id st'
  exact ⟨u,rfl,qay (s:={ s with heap:=h' }) e c d (by decide) ⟨x,H,I1,ru,⟨rfl,fun ys hy=>by rw [I.tuple_inj hy hq]; exact hx⟩,st',fun b hb=>(hf b hb).1⟩⟩
 done:=by
  intro X hP hw hK hc i pins s σ H E I hf st hg
  subst hP hw hK
  obtain ⟨xs,hq,hx⟩:=hg
  obtain ⟨its,rv,p,hz⟩:=I.tuple hq
  obtain ⟨f0,f1,f2,f3,f4,f5⟩:=hf it (by simp)
  have hl:=rv.length
  exact wpAny_pyNext_tuple_end (I.ok.hd hc) st (show s.heap.IsTuple a its.toArray from p) (by simp; omega) fun h' eb=>⟨rfl,I.turned (t':=s.toks) (fun b o hb e=>eb b o hb e) f0 f1 f3 f4 f5⟩
 self:=fun _ _ _ _ _ st h=>wpAny_pyIter_tupleiter st h
theorem YD (it:Addr) (lo:Int) (n:Nat):Turn P w K tg (Itr lo n) [it] it (fun i h=>IsRangeIter h it (lo+(i:Nat) * 1) ((n:Int) - (i:Nat)) 1) where
 mem:=by simp
 obj:=fun i h st b hb=>by
  have e:b=it:=by simpa using hb
  subst e
  exact ⟨_,st,fun v z=>by
   have z':Data.fields _=Data.cell v:=z
   cases z'⟩
 keep:=fun i h h' st k=>k it (by simp) _ st
 item:=by
  intro X hP hw hK hc i pins s σ H E I hf st hg
  subst hP hw hK
  obtain ⟨f0,f1,f2,f3,f4,f5⟩:=hf it (by simp)
  have W:=Walks.range (prog:=X.prog) (w:=X.w) (I.ok.hd hc) it lo 1 n
  refine W.item i s _ _ hg st fun v h' tk hv st' kk=>?_
  obtain ⟨t,rfl⟩:=hv
  have I1:Inv X pins σ H { s with heap:=h',toks:=tk }:=I.turned (fun b o hb e=>kk b o (by simpa using hb) e) f0 f1 f3 f4 f5
  refine ⟨_,rfl,qay (s:={ s with heap:=h',toks:=tk }) (n := "range_iterator") st' rfl rfl (by decide) ⟨.int (lo+i),H,I1,⟨t,?_⟩,⟨rfl,rfl⟩,st',fun b hb=>(hf b hb).1⟩⟩
  rw [Int.mul_one]
 done:=by
  intro X hP hw hK hc i pins s σ H E I hf st hg
  subst hP hw hK
  obtain ⟨f0,f1,f2,f3,f4,f5⟩:=hf it (by simp)
  exact wpAny_pyNext_range_end (I.ok.hd hc) st (by have:n<=i:=hg; omega) fun h' eb=>⟨rfl,I.turned (t':=s.toks) (fun b o hb e=>eb b o hb e) f0 f1 f3 f4 f5⟩
 self:=fun _ _ _ _ _ st h=>wpAny_pyIter_rangeiter st h
variable {p:Pos} {fp:List Addr}
section
theorem qaz {R:It->Hp->Prop} {E:Value->Shared->Prop} {lo hi:Int} {t u v:Tok} {tk:Nat} (I:Inv X pins σ H s) (h1:-(2 ^ 62)<=lo) (h2:lo < 2 ^ 62) (h3:-(2 ^ 62)<=hi) (h4:hi < 2 ^ 62)
  (q:R (Itr lo (hi - lo).toNat) H):wpAny (model X.prog X.w) X.A (pyIter (.ref s.heap.objs.size)) (PIE X pins σ tg R) E { s with heap:=s.heap.push { cls:=.type "range",data:=.fields #[.int lo t,.int hi u,.int 1 v] },toks:=tk }:=by
 refine wpAny_pyIter_range (IsRange.new ..) (small_one h1 h2 h3 h4) ?_
 have I1:Inv X pins σ H { s with heap:=s.heap.push { cls:=.type "range",data:=.fields #[.int lo t,.int hi u,.int 1 v] },toks:=tk }:=I.kept fun b o e=>aa _ e
 refine ⟨(s.heap.push { cls:=.type "range",data:=.fields #[.int lo t,.int hi u,.int 1 v] }).objs.size,[(s.heap.push { cls:=.type "range",data:=.fields #[.int lo t,.int hi u,.int 1 v] }).objs.size],_,_,H,rfl,
  I1.kept (t':=tk) fun b o e=>aa _ e,YD _ lo (hi - lo).toNat,?_,fun b hb=>?_,q⟩
 ·have e1:lo+((0:Nat):Int) * 1=lo:=by simp
  have e2:(((hi - lo).toNat:Nat):Int) - ((0:Nat):Int)=Builtin.Range.rangeSize lo hi 1:=by rw [rangeSize_one]; split <;> omega
  show IsRangeIter _ _ (lo+((0:Nat):Int) * 1) ((((hi - lo).toNat:Nat):Int) - ((0:Nat):Int)) 1
  rw [e1,e2]
  exact ah _ rfl
 ·have e:b=(s.heap.push { cls:=.type "range",data:=.fields #[.int lo t,.int hi u,.int 1 v] }).objs.size:=by simpa using hb
  subst e
  exact I1.fpOk (ao _) (I1.hok.fresh (ao _))
def qgg (ta:TA):TI:=fun σ H R=>ta σ H fun vs H1=>∃ j:Int,vs=[.int j]/\-(2 ^ 62)<=j/\j < 2 ^ 62/\R (Itr 0 j.toNat) H1
theorem XE {a:Expr} {ta:TA} (hg:Gl X "range") (hm:X.mg "range"=none) (ha:PA X [a] ta) (hs:starEach [a] X.env=[(false,eval a X.env)]:=by rfl):PI X tg (.Call (.Name "range" p) [a] [] pos) (qgg ta):=by
 refine ⟨?_⟩
 intro pins s σ H R I h
 refine Call_ (zX I hg hm boot_range (bF (thn (ha pos pins s σ H _ I h) fun us s1 ⟨vs,H1,I1,r1,q1⟩=>?_) hs rfl))
 obtain ⟨j,e,q1,q2,q⟩:=q1
 subst e
 cases r1 with
 | cons r rr=>
  cases rr
  obtain ⟨t,rfl⟩:=r
  exact call_range_1 (qaz I1 (by omega) (by omega) q1 q2 (by simpa using q))
def qhF (wi:TI) (g:TG) (tb:TS):TS:=fun D σ H=>wi σ H fun J H1=>∃ W:Nat->Nat->St->Hp->Prop,(∃ m,W 0 m σ H1)/\∀ i m σ H,W i m σ H ->
 (J.stop i H/\D.nx σ H)\/(J.go i H/\∃ N:St->Hp->Prop,(∀ σ' H',N σ' H'->∃ m',m' < m/\W (i+1) m' σ' H')/\∀ x H',J.yld i H x H'->g x σ H' fun σ2 H2=>tb { D with nx:=N,ct:=N,bk:=D.nx } σ2 H2)
noncomputable def Kv (fp:List Addr) (h:Heap):List (Addr×Obj):=fp.filterMap fun b=>(h.get? b).map fun o=>(b,o)
theorem uG {o:Obj} (hb:b∈fp) (e:h.get? b=some o):(b,o)∈Kv fp h:=dU.mpr ⟨b,hb,by rw [e]; rfl⟩
theorem XF {p:Addr×Obj} (hp:p∈Kv fp h):p.1∈fp/\h.get? p.1=some p.2:=by
 obtain ⟨b,hb,e⟩:=dU.mp hp
 cases q:h.get? b with
 | none=>rw [q] at e; cases e
 | some o=>
  rw [q] at e
  have e':(b,o)=p:=aK.inj e
  subst e'
  exact ⟨hb,q⟩
theorem Inv.pinned (I:Inv X pins σ H s) (hf:∀ b∈fp,VT X pins H b) (ho:∀ b∈fp,∃ o,s.heap.get? b=some o/\∀ v,o.data≠.cell v):Inv X (pins++Kv fp s.heap) σ H s:=
 I.pins_of fun p hp=>(ai.mp hp).elim (fun z=>I.pin p (aM _ z)) fun z=>by
  obtain ⟨hb,e⟩:=XF z
  obtain ⟨f0,f1,f2,_⟩:=hf p.1 hb
  obtain ⟨o,e',d⟩:=ho p.1 hb
  rw [e] at e'; cases e'
  exact ⟨e,f0,f1,f2,d⟩
theorem Inv.unpinned {pl:List (Addr×Obj)} (I:Inv X (pins++pl) σ H s):Inv X pins σ H s:=I.pins_of fun p hp=>I.pin p (aM _ (bV _ hp))
theorem qec {iter:Expr} {wi:TI} {g:TG} {pos:Pos} (hp:PassesOwn (model X.prog X.w) X.A X.env X.xe) (hc:X.calm=true) (hi:PI X tg iter wi) (hg:PG X tg g) (hb:PSs X body tb)
  (hs:∀ x,foldedSetIterable iter X.env x=pure x:=by intro _; rfl):PS X (.For tg iter body [] pos) (qhF wi g tb):=by
 refine ⟨?_⟩
 intro pins s σ H D I h
 refine wpAny_For (thn (hi pins s σ H _ I h) fun v s1 h1=>thn h1 fun itv s2 h2=>?_) hs
 obtain ⟨it,fp,tn,J,H2,e,I2,T,st2,f2,W,⟨m0,w0⟩,turn⟩:=h2
 subst e
 have stat:∀ {H':Hp},(∀ b∈fp,H' b=none)->∀ b∈fp,VT X pins H' b:=fun hn b hb=>⟨hn b hb,(f2 b hb).2⟩
 refine codeAny_forLoop_any (fun n s'=>∃ i σ' H',Inv X pins σ' H' s'/\tn i s'.heap/\(∀ b∈fp,H' b=none)/\W i n σ' H') ?_ m0 ⟨0,σ,H2,I2,st2,fun b hb=>(f2 b hb).1,w0⟩
 rintro n s3 ⟨i,σ3,H3,I3,st3,fr3,w3⟩
 rcases turn i n σ3 H3 w3 with ⟨stop,qn⟩ | ⟨go,N,hN,step⟩
 ·refine wpAny_passesOwn hp (thn (T.done X rfl rfl rfl hc i pins s3 σ3 H3 X.xe I3 (stat fr3) st3 stop) fun r s4 ⟨hr,I4⟩=>?_)
  subst hr
  exact wpAny_execs_nil ⟨σ3,H3,I4,qn⟩
 ·refine wpAny_passesOwn hp (thn (T.item X rfl rfl rfl hc i pins s3 σ3 H3 X.xe I3 (stat fr3) st3 go) fun r s4 ⟨u,hr,h4⟩=>?_)
  subst hr
  refine wpAny_passesOwn hp (thn h4 fun _ s5 ⟨x,H5,I5,r5,y5,st5,fr5⟩=>?_)
  have I5':=I5.pinned (stat fr5) (T.obj _ _ st5)
  refine wpAny_passesOwn hp (thn (hg _ s5 σ3 H5 x u _ I5' r5 (step x H5 y5)) fun _ s6 ⟨σ6,H6,I6,q6⟩=>?_)
  refine wpAny_passesOwn hp (thn (hb _ s6 σ6 H6 _ I6 q6) fun f s7 q7=>?_)
  have again:∀ {σ7:St} {H7:Hp},Inv X (pins++Kv fp s5.heap) σ7 H7 s7->N σ7 H7->∃ m,m < n/\∃ i σ' H',Inv X pins σ' H' s7/\tn i s7.heap/\(∀ b∈fp,H' b=none)/\W i m σ' H':=fun {σ7 H7} I7 n7=>by
   obtain ⟨m',hm,w7⟩:=hN σ7 H7 n7
   refine ⟨m',hm,i+1,σ7,H7,I7.unpinned,T.keep _ _ _ st5 fun b hb o e=>(I7.pin (b,o) (aM _ (aM _ (uG hb e)))).1,fun b hb=>?_,w7⟩
   obtain ⟨o,e,d⟩:=T.obj _ _ st5 b hb
   exact (I7.pin (b,o) (aM _ (aM _ (uG hb e)))).2.1
  cases f with
  | next=>obtain ⟨σ7,H7,I7,n7⟩:=q7; exact again I7 n7
  | cont=>obtain ⟨σ7,H7,I7,n7⟩:=q7; exact again I7 n7
  | brk=>obtain ⟨σ7,H7,I7,q7⟩:=q7; exact ⟨σ7,H7,I7.unpinned,q7⟩
  | ret v=>obtain ⟨x7,σ7,H7,I7,r7,q7⟩:=q7; exact ⟨x7,σ7,H7,I7.unpinned,r7,q7⟩
end
abbrev R2:=V->V->Hp->VK->Prop
def OpR (X:Cx) (f:Value->Value->Sem Value) (r:R2):Prop:=
 ∀ (pins:List (Addr×Obj)) (s:Shared) (σ:St) (H:Hp) (x y:V) (v u:Value) (Q:VK),Inv X pins σ H s->RelV x v->RelV y u->r x y H Q ->
  wpAny (model X.prog X.w) X.A (f v u) (EP X pins σ Q) X.xe s
def UnR (X:Cx) (f:Value->Sem Value) (r:V->Hp->VK->Prop):Prop:=
 ∀ (pins:List (Addr×Obj)) (s:Shared) (σ:St) (H:Hp) (x:V) (v:Value) (Q:VK),Inv X pins σ H s->RelV x v->r x H Q ->
  wpAny (model X.prog X.w) X.A (f v) (EP X pins σ Q) X.xe s
def ub (X:Cx) (f:Value) (r:List V->Hp->VK->Prop):Prop:=
 ∀ (pins:List (Addr×Obj)) (s:Shared) (σ:St) (H:Hp) (xs:List V) (us:List Value) (Q:VK),Inv X pins σ H s->Vals xs us->r xs H Q ->
  wpAny (model X.prog X.w) X.A (call f us) (EP X pins σ Q) X.xe s
def qhG (X:Cx) (r:V->Hp->(Bool->Hp->Prop)->Prop):Prop:=
 ∀ (pins:List (Addr×Obj)) (s:Shared) (σ:St) (H:Hp) (x:V) (v:Value) (Q:Bool->Hp->Prop),Inv X pins σ H s->RelV x v->r x H Q ->
  wpAny (model X.prog X.w) X.A (truthy v) (TP X pins σ Q) X.xe s
def tOp (r:R2) (ta tb:TE):TE:=fun σ H Q=>ta σ H fun x H1=>tb σ H1 fun y H2=>r x y H2 Q
def tUn (r:V->Hp->VK->Prop) (ta:TE):TE:=fun σ H Q=>ta σ H fun x H1=>r x H1 Q
def rI (C:Int->Int->Prop) (g:Int->Int->V):R2:=fun x y H Q=>∃ i j,x=.int i/\y=.int j/\C i j/\Q (g i j) H
def rI0 (g:Int->Int->V):R2:=fun x y H Q=>∃ i j,x=.int i/\y=.int j/\Q (g i j) H
def rU (g:Int->V):V->Hp->VK->Prop:=fun x H Q=>∃ i,x=.int i/\Q (g i) H
variable {r:R2}
section
variable {a b:Expr} {tb tc:TE}
theorem qgh (ha:PE X a ta) (hb:PE X b tb) {R:V->V->Hp->Prop} (I:Inv X pins σ H s)
  (h:ta σ H fun x H1=>tb σ H1 fun y H2=>R x y H2) {Q:Value->Shared->Prop} {f:Value->Value->Sem Value}
  (hf:∀ v u s2 x y H2,Inv X pins σ H2 s2->RelV x v->RelV y u->R x y H2->wpAny (model X.prog X.w) X.A (f v u) Q X.xe s2) :
  wpAny (model X.prog X.w) X.A (eval a X.env) (fun v s₁=>wpAny (model X.prog X.w) X.A (eval b X.env) (fun u s₂=>wpAny (model X.prog X.w) X.A (f v u) Q X.xe s₂) X.xe s₁) X.xe s:=by
 refine thn (ha pins s σ H _ I h) fun v s1 ⟨x,H1,I1,r1,q1⟩=>?_
 refine thn (hb pins s1 σ H1 _ I1 q1) fun u s2 ⟨y,H2,I2,r2,q2⟩=>?_
 exact hf v u s2 x y H2 I2 r1 r2 q2
theorem qgi {op:Operator} (ho:OpR X (binaryOp op) r) (ha:PE X a ta) (hb:PE X b tb):PE X (.BinOp a op b pos) (tOp r ta tb):=by
 refine ⟨?_⟩
 intro pins s σ H Q I h
 exact wpAny_BinOp (qgh ha hb I h fun v u s2 x y H2 I2 rx ry q=>ho pins s2 σ H2 x y v u Q I2 rx ry q)
theorem qgj {op:UnaryOp} {r:V->Hp->VK->Prop} (ho:UnR X (unaryOp op) r) (ha:PE X a ta):PE X (.UnaryOp op a pos) (tUn r ta):=by
 refine ⟨?_⟩
 intro pins s σ H Q I h
 exact UnaryOp_ (thn (ha pins s σ H _ I h) fun v s1 ⟨x,H1,I1,r1,q1⟩=>ho pins s1 σ H1 x v Q I1 r1 q1)
theorem opI {f:Value->Value->Sem Value} {C:Int->Int->Prop} {g:Int->Int->Int}
  (rule:∀ (i j:Int) (t u:Tok) (s:Shared) (Q:Value->Shared->Prop) (E:Value->Shared->Prop),C i j->Q (.int (g i j) s.toks) { s with toks:=s.toks+1 }->wpAny (model X.prog X.w) X.A (f (.int i t) (.int j u)) Q E s) :
  OpR X f (rI C fun i j=>.int (g i j)):=by
 intro pins s σ H x y v u Q I rx ry h
 obtain ⟨i,j,rfl,rfl,hc,q⟩:=h
 obtain ⟨t,rfl⟩:=rx
 obtain ⟨t',rfl⟩:=ry
 exact rule i j t t' s _ _ hc ⟨.int (g i j),H,I.tok _,⟨_,rfl⟩,q⟩
theorem qg2 {f:Value->Value->Sem Value} {g:Int->Int->Int}
  (rule:∀ (i j:Int) (t u:Tok) (s:Shared) (Q:Value->Shared->Prop) (E:Value->Shared->Prop),Q (.int (g i j) s.toks) { s with toks:=s.toks+1 }->wpAny (model X.prog X.w) X.A (f (.int i t) (.int j u)) Q E s) :
  OpR X f (rI0 fun i j=>.int (g i j)):=by
 intro pins s σ H x y v u Q I rx ry h
 obtain ⟨i,j,rfl,rfl,q⟩:=h
 obtain ⟨t,rfl⟩:=rx
 obtain ⟨t',rfl⟩:=ry
 exact rule i j t t' s _ _ ⟨.int (g i j),H,I.tok _,⟨_,rfl⟩,q⟩
theorem qfN {f:Value->Value->Sem Value} {g:Int->Int->Bool}
  (rule:∀ (i j:Int) (t u:Tok) (s:Shared) (Q:Value->Shared->Prop) (E:Value->Shared->Prop),Q (.bool (g i j)) s->wpAny (model X.prog X.w) X.A (f (.int i t) (.int j u)) Q E s) :
  OpR X f (rI0 fun i j=>.bl (g i j)):=by
 intro pins s σ H x y v u Q I rx ry h
 obtain ⟨i,j,rfl,rfl,q⟩:=h
 obtain ⟨t,rfl⟩:=rx
 obtain ⟨t',rfl⟩:=ry
 exact rule i j t t' s _ _ ⟨.bl (g i j),H,I,rfl,q⟩
def qdN (i j:Int):Prop:=0 < j/\j < 1073741824
def qdO (i j:Int):Prop:=0<=j/\j<=1000000/\i.natAbs < 2 ^ 64
def CMul (i j:Int):Prop:=(-(2 ^ 64) < i/\i < 2 ^ 64)\/(-(2 ^ 64) < j/\j < 2 ^ 64)
theorem CMul.ok {i j:Int} (h:CMul i j):IntMulOk i j:=by
 rcases h with ⟨h1,h2⟩ | ⟨h1,h2⟩
 ·exact .of_left (intBits_le_64 h1 h2)
 ·exact .of_right (intBits_le_64 h1 h2)
theorem qed:OpR X (binaryOp .Add) (rI0 fun i j=>.int (i+j)):=qg2 fun _ _ _ _ _ _ _ q=>add_int q
theorem qee:OpR X (binaryOp .Sub) (rI0 fun i j=>.int (i - j)):=qg2 fun _ _ _ _ _ _ _ q=>sub_int q
theorem qef:OpR X (binaryOp .Mult) (rI CMul fun i j=>.int (i * j)):=opI fun _ _ _ _ _ _ _ hc q=>mul_int q hc.ok
theorem qcz:OpR X (binaryOp .FloorDiv) (rI qdN fun i j=>.int (i / j)):=opI fun i j _ _ _ _ _ hc q=>by
 have h1:(0:Int) < j:=hc.1
 have h2:j < 1073741824:=hc.2
 exact floordiv_int (by omega) (by rw [Int.fdiv_eq_ediv_of_nonneg i (by omega)]; exact q) (.inl (PyProof.noPylong_small (by omega)))
theorem qeg:OpR X (binaryOp .Mod) (rI (fun _ j=>0 < j) fun i j=>.int (i % j)):=opI fun i j _ _ _ _ _ hc q=>by
 have h1:(0:Int) < j:=hc
 exact mod_int' (by omega) (by rw [Int.fmod_eq_emod_of_nonneg i (by omega)]; exact q)
theorem qbZ:OpR X (binaryOp .Pow) (rI qdO fun i j=>.int (i ^ j.toNat)):=opI fun _ _ _ _ _ _ _ hc q=>pow_int_small hc.1 hc.2.1 hc.2.2 q
theorem unI {f:Value->Sem Value} {g:Int->Int}
  (rule:∀ (i:Int) (t:Tok) (s:Shared) (Q:Value->Shared->Prop) (E:Value->Shared->Prop),Q (.int (g i) s.toks) { s with toks:=s.toks+1 }->wpAny (model X.prog X.w) X.A (f (.int i t)) Q E s) :
  UnR X f (rU fun i=>.int (g i)):=by
 intro pins s σ H x v Q I rx h
 obtain ⟨i,rfl,q⟩:=h
 obtain ⟨t,rfl⟩:=rx
 exact rule i t s _ _ ⟨.int (g i),H,I.tok _,⟨_,rfl⟩,q⟩
theorem qeh:UnR X (unaryOp .USub) (rU fun i=>.int (-i)):=unI fun _ _ _ _ _ q=>neg_int q
end
variable {op op':CmpOp} {r':R2}
section
variable {a b:Expr} {tb tc:TE}
theorem XG {Q:VK} {k k':Bool} (I:Inv X pins σ H s) (q:Q (.bl k) H) (e:k=k'):EP X pins σ Q (.bool k') s:=by
 subst e
 exact ⟨.bl k,H,I,rfl,q⟩
theorem qgk:OpR X (compareOp .Lt) (rI0 fun i j=>.bl (decide (i < j))):=qfN fun _ _ _ _ _ _ _ q=>lt_int q
theorem qgl:OpR X (compareOp .LtE) (rI0 fun i j=>.bl (decide (i<=j))):=qfN fun _ _ _ _ _ _ _ q=>le_int q
theorem qgm:OpR X (compareOp .Gt) (rI0 fun i j=>.bl (decide (j < i))):=qfN fun _ _ _ _ _ _ _ q=>gt_int q
theorem qgn:OpR X (compareOp .GtE) (rI0 fun i j=>.bl (decide (j<=i))):=qfN fun _ _ _ _ _ _ _ q=>ge_int q
theorem XH:OpR X (compareOp .Lt) (fun x y H Q=>∃ i j,x=.str i/\y=.str j/\Q (.bl (decide (i.cps.toList < j.cps.toList))) H):=by
 intro pins s σ H x y v u Q I rx ry h
 obtain ⟨i,j,rfl,rfl,q⟩:=h
 obtain ⟨t,rfl⟩:=rx
 obtain ⟨t',rfl⟩:=ry
 exact lt_str (XG I q rfl)
theorem qcA:OpR X (compareOp .IsNot) (fun x y H Q=>y=.non/\Q (.bl (!decide (x=.non))) H):=by
 intro pins s σ H x y v u Q I rx ry h
 obtain ⟨rfl,q⟩:=h
 cases ry
 refine isnot_none_gen (XG I q ?_)
 cases x <;> first
  | (cases rx; rfl)
  | (obtain ⟨t,rfl⟩:=rx; rfl)
theorem qb0 (b:Expr) (h:op≠.In:=by decide) (h2:op≠.NotIn:=by decide):behindInMarks op b=false:=by
 have e1:(op == CmpOp.In)=false:=by cases op <;> first | rfl | exact absurd rfl h
 have e2:(op == CmpOp.NotIn)=false:=by cases op <;> first | rfl | exact absurd rfl h2
 cases b <;> simp [behindInMarks,e1,e2]
theorem qcB (ho:OpR X (compareOp op) r) (ha:PE X a ta) (hb:PE X b tb) (hm:behindInMarks op b=false):PE X (.Compare a [op] [b] pos) (tOp r ta tb):=by
 refine ⟨?_⟩
 intro pins s σ H Q I h
 exact wpAny_Compare1 (qgh ha hb I h fun v u s2 x y H2 I2 rx ry q=>ho pins s2 σ H2 x y v u Q I2 rx ry q) hm
def qei (t:TE):TT:=fun σ H Q=>t σ H fun x H'=>∃ k,x=.bl k/\Q k H'
theorem qcC (ho:OpR X (compareOp op) r) (ha:PE X a ta) (hb:PE X b tb) (hm:behindInMarks op b=false):PT X (.Compare a [op] [b] pos) (qei (tOp r ta tb)):=by
 refine ⟨?_⟩
 intro pins s σ H Q I h
 refine wpAny_isTrue_Compare1 (thn (ha pins s σ H _ I h) fun v s1 ⟨x,H1,I1,r1,q1⟩=>thn (hb pins s1 σ H1 _ I1 q1) fun u s2 ⟨y,H2,I2,r2,q2⟩=>
  thn (ho pins s2 σ H2 x y v u _ I2 r1 r2 q2) fun c s3 ⟨z,H3,I3,r3,k,e,q3⟩=>?_) hm
 subst e
 cases r3
 exact wpAny_truthy_bool ⟨H3,I3,q3⟩
def XI (r r':R2) (ta tb tc:TE):TE:=fun σ H Q=>ta σ H fun x H1=>tb σ H1 fun y H2=>r x y H2 fun z H3=>∃ k,z=.bl k /\
 (if k=true then tc σ H3 fun w' H4=>r' y w' H4 Q else Q (.bl false) H3)
theorem qaA (ho:OpR X (compareOp op) r) (ho':OpR X (compareOp op') r') (ha:PE X a ta) (hb:PE X b tb) (hc:PE X c tc)
  (hm:lastMarks [op,op'] [b,c]=false:=by with_unfolding_all rfl):PE X (.Compare a [op,op'] [b,c] pos) (XI r r' ta tb tc):=by
 refine ⟨?_⟩
 intro pins s σ H Q I h
 refine Compare_chain (thn (ha pins s σ H _ I h) fun v s1 ⟨x,H1,I1,r1,q1⟩=>chain_link (thn (hb pins s1 σ H1 _ I1 q1) fun u s2 ⟨y,H2,I2,r2,q2⟩=>
  thn (ho pins s2 σ H2 x y v u _ I2 r1 r2 q2) fun d s3 ⟨z,H3,I3,r3,k,e,q3⟩=>?_)) hm
 subst e
 cases r3
 refine wpAny_truthy_bool ?_
 cases k with
 | false=>exact ite_ff ⟨.bl false,H3,I3,rfl,q3⟩
 | true=>exact ite_tt (chain_last (thn (hc pins s3 σ H3 _ I3 q3) fun w' s4 ⟨z',H4,I4,r4,q4⟩=>ho' pins s4 σ H4 y z' u w' Q I4 r2 r4 q4))
theorem qaB (ho:OpR X (compareOp op) r) (ho':OpR X (compareOp op') r') (ha:PE X a ta) (hb:PE X b tb) (hc:PE X c tc)
  (hm:lastMarks [op,op'] [b,c]=false:=by with_unfolding_all rfl):PT X (.Compare a [op,op'] [b,c] pos) (qei (XI r r' ta tb tc)):=by
 refine ⟨?_⟩
 intro pins s σ H Q I h
 refine isTrue_chain (thn (ha pins s σ H _ I h) fun v s1 ⟨x,H1,I1,r1,q1⟩=>test_link (thn (hb pins s1 σ H1 _ I1 q1) fun u s2 ⟨y,H2,I2,r2,q2⟩=>
  thn (ho pins s2 σ H2 x y v u _ I2 r1 r2 q2) fun d s3 ⟨z,H3,I3,r3,k,e,q3⟩=>?_)) hm
 subst e
 cases r3
 refine wpAny_truthy_bool ?_
 cases k with
 | false=>
  obtain ⟨k',e',q'⟩:=q3
  cases e'
  exact ite_ff ⟨H3,I3,q'⟩
 | true=>
  refine ite_tt (test_last (thn (hc pins s3 σ H3 _ I3 q3) fun w' s4 ⟨z',H4,I4,r4,q4⟩=>thn (ho' pins s4 σ H4 y z' u w' _ I4 r2 r4 q4) fun d' s5 ⟨z2,H5,I5,r5,k2,e2,q5⟩=>?_))
  subst e2
  cases r5
  exact wpAny_truthy_bool ⟨H5,I5,q5⟩
def qgo (K:Frag) (x:V) (H:Hp) (k:Bool):Prop:=
 match x with
 | .non=>k=false
 | .bl b=>k=b
 | .int i=>k=(i != 0)
 | .str y=>y.length<=sizeLine/\k=((y.length:Int) != 0)
 | .byt y=>y.size<=sizeLine/\k=((y.size:Int) != 0)
 | .ref p=>(∃ xs,SqL K H p xs/\k=!xs.isEmpty)\/(∃ xs,SqT K H p xs/\k=!xs.isEmpty)\/∃ kvs,H p=some (.dK kvs)/\k=!kvs.isEmpty
 | _=>False
theorem YE {κ:Type} {kvs:List (κ×V)} {vs:List (κ×Value)} (r:KV kvs vs):(!vs.isEmpty)=!kvs.isEmpty:=by
 cases r <;> rfl
theorem Qz {its:List Value} (r:Vals xs its):(!its.toArray.isEmpty)=!xs.isEmpty:=by
 cases r <;> simp
theorem QA:(sizeLine:Nat) < 2 ^ 63:=by rw [sizeLine_eq]; decide
theorem qej:qhG X (fun x H Q=>∃ k,qgo X.K x H k/\Q k H):=by
 intro pins s σ H x v Q I rx h
 obtain ⟨k,e,q⟩:=h
 have hl:=QA
 have hs:sizeLine=16777216:=sizeLine_eq
 cases x with
 | non=>
  cases rx
  have e':k=false:=e
  subst e'
  exact truthy_none ⟨H,I,q⟩
 | bl b=>
  cases rx
  have e':k=b:=e
  subst e'
  exact wpAny_truthy_bool ⟨H,I,q⟩
 | int i=>
  obtain ⟨t,rfl⟩:=rx
  have e':k=(i != 0):=e
  subst e'
  exact PySem.P.truthy_int ⟨H,I,q⟩
 | str y=>
  obtain ⟨t,rfl⟩:=rx
  obtain ⟨hy,e'⟩:y.length<=sizeLine/\k=((y.length:Int) != 0):=e
  subst e'
  exact PySem.P.truthy_str (by omega) ⟨H,I.tok _,q⟩
 | byt y=>
  obtain ⟨t,rfl⟩:=rx
  obtain ⟨hy,e'⟩:y.size<=sizeLine/\k=((y.size:Int) != 0):=e
  subst e'
  exact PySem.W.truthy_bytes (by omega) ⟨H,I.tok _,q⟩
 | ref p=>
  cases rx
  have e':(∃ xs,SqL X.K H p xs/\k=!xs.isEmpty)\/(∃ xs,SqT X.K H p xs/\k=!xs.isEmpty)\/∃ kvs,H p=some (.dK kvs)/\k=!kvs.isEmpty:=e
  rcases e' with ⟨xs,hx,e'⟩ | ⟨xs,hx,e'⟩ | ⟨kvs,hx,e'⟩
  ·subst e'
   obtain ⟨its,r,pl,hz⟩:=I.list hx
   have hlen:=r.length
   exact wpAny_truthy_list pl.isList (by simp only [ak]; omega) ⟨H,I.tok _,by rw [Qz r]; exact q⟩
  ·subst e'
   obtain ⟨its,r,pl,hz⟩:=I.tuple hx
   have hlen:=r.length
   exact truthy_tuple pl (by simp only [ak]; omega) ⟨H,I.tok _,by rw [Qz r]; exact q⟩
  ·subst e'
   obtain ⟨hz,hS,vs,r,m⟩:kvs.length<=sizeLine/\(p == sysModules)=false/\∃ vs,KV kvs vs/\s.heap.DictOf (jg X.prog X.w) p vs:=I.hok p _ hx
   have hlen:kvs.length=vs.length:=ej r
   exact wpAny_truthy_dict hS m (by omega) ⟨H,I.tok _,by rw [YE r]; exact q⟩
 | _=>exact (show False from e).elim
theorem qaC (ha:PE X a ta) (he:∀ whole,isTrue a X.env whole=(do let v <-whole; standAt a.pos; holding [v] (truthy v))) :
  PT X a (fun σ H Q=>ta σ H fun x H'=>∃ k,qgo X.K x H' k/\Q k H'):=by
 refine ⟨?_⟩
 intro pins s σ H Q I h
 exact isTrue_plain (thn (ha pins s σ H _ I h) fun v s1 ⟨x,H1,I1,r1,q1⟩=>qej pins s1 σ H1 x v Q I1 r1 q1) (he _)
theorem YF:OpR X (binaryOp .Add) (fun x y H Q=>∃ i j,x=.str i/\y=.str j/\i.length+j.length<=sizeLine/\Q (.str (i++j)) H):=by
 intro pins s σ H x y v u Q I rx ry h
 obtain ⟨i,j,rfl,rfl,hz,q⟩:=h
 obtain ⟨t,rfl⟩:=rx
 obtain ⟨t',rfl⟩:=ry
 exact add_str (fun t' tk=>⟨.str (i++j),H,I.tok _,⟨_,rfl⟩,q⟩) hz
theorem yi {x:V} (r:Vals [x] us):∃ u,us=[u]/\RelV x u:=by
 cases r with
 | cons r1 r2=>cases r2; exact ⟨_,rfl,r1⟩
theorem qaD {x y:V} (r:Vals [x,y] us):∃ u w',us=[u,w']/\RelV x u/\RelV y w':=by
 cases r with
 | cons r1 r2=>
  cases r2 with
  | cons r3 r4=>cases r4; exact ⟨_,_,rfl,r1,r3⟩
theorem XJ (hc:X.calm=true):ub X (.builtin "max") (fun xs H Q=>∃ i j,xs=[.int i,.int j]/\Q (.int (if j > i then j else i)) H):=by
 intro pins s σ H xs us Q I r h
 obtain ⟨i,j,rfl,q⟩:=h
 obtain ⟨u,w',rfl,⟨t,rfl⟩,⟨t',rfl⟩⟩:=qaD r
 refine max_two_ints (I.ok.hd hc) fun h' tk k=>⟨_,H,I.kept k,?_,q⟩
 by_cases hj:j > i
 ·rw [if_pos hj,if_pos hj]; exact ⟨_,rfl⟩
 ·rw [if_neg hj,if_neg hj]; exact ⟨_,rfl⟩
theorem XM (hc:X.calm=true):ub X (.builtin "min") (fun xs H Q=>∃ i j,xs=[.int i,.int j]/\Q (.int (if j < i then j else i)) H):=by
 intro pins s σ H xs us Q I r h
 obtain ⟨i,j,rfl,q⟩:=h
 obtain ⟨u,w',rfl,⟨t,rfl⟩,⟨t',rfl⟩⟩:=qaD r
 refine min_two_ints (I.ok.hd hc) fun h' tk k=>⟨_,H,I.kept k,?_,q⟩
 by_cases hj:j < i
 ·rw [if_pos hj,if_pos hj]; exact ⟨_,rfl⟩
 ·rw [if_neg hj,if_neg hj]; exact ⟨_,rfl⟩
def qhH (K:Frag) (x:V) (H:Hp) (n:Nat):Prop:=
 match x with
 | .str y=>y.length<=sizeLine/\n=y.length
 | .byt y=>y.size<=sizeLine/\n=y.size
 | .ref p=>(∃ xs,SqL K H p xs/\n=xs.length)\/∃ xs,SqT K H p xs/\n=xs.length
 | _=>False
theorem Jf:ub X (.builtin "len") (fun xs H Q=>∃ x n,xs=[x]/\qhH X.K x H n/\Q (.int n) H):=by
 intro pins s σ H xs us Q I r h
 obtain ⟨x,n,rfl,e,q⟩:=h
 obtain ⟨u,rfl,rx⟩:=yi r
 have hl:=QA
 have hs:sizeLine=16777216:=sizeLine_eq
 cases x with
 | str y=>
  obtain ⟨t,rfl⟩:=rx
  obtain ⟨hy,e'⟩:y.length<=sizeLine/\n=y.length:=e
  subst e'
  exact len_str (by omega) ⟨.int _,H,I.tok _,⟨_,rfl⟩,q⟩
 | byt y=>
  obtain ⟨t,rfl⟩:=rx
  obtain ⟨hy,e'⟩:y.size<=sizeLine/\n=y.size:=e
  subst e'
  exact PySem.W.len_bytes (by omega) ⟨.int _,H,I.tok _,⟨_,rfl⟩,q⟩
 | ref p=>
  cases rx
  have e':(∃ xs,SqL X.K H p xs/\n=xs.length)\/∃ xs,SqT X.K H p xs/\n=xs.length:=e
  rcases e' with ⟨xs,hx,e'⟩ | ⟨xs,hx,e'⟩
  ·subst e'
   obtain ⟨its,r',pl,hz⟩:=I.list hx
   have hlen:=r'.length
   exact Calls.call_len_list pl.isList (by simp only [ak]; omega) ⟨.int xs.length,H,I.tok _,⟨_,by simp only [ak]; rw [hlen]⟩,q⟩
  ·subst e'
   obtain ⟨its,r',pl,hz⟩:=I.tuple hx
   have hlen:=r'.length
   exact len_tuple pl (by simp only [ak]; omega) ⟨.int xs.length,H,I.tok _,⟨_,by simp only [ak]; rw [hlen]⟩,q⟩
 | _=>exact (show False from e).elim
end
structure ObjM (h:Heap) (x dx C:Addr) (mA:Str->Option Value):Prop where
 obj:h.get? x=some (cw C dx)
 ns:h.Ns1 dx mA
 ne:dx≠x
variable {dx:Addr} {mA:Str->Option Value}
theorem XN (n:h.Ns1 dx mA):∃ od,h.get? dx=some od/\∀ name,fg name od=some (mA name):=by
 obtain ⟨o,es,ep,ho,hd,hk,_,hm⟩:=n
 refine ⟨o,ho,fun name=>?_⟩
 have e:=hm name
 unfold nsFind findBy at e
 rw [<-Array.find?_toList] at e
 unfold fg
 rw [hd]
 dsimp only
 split
 ·rename_i y q
  rw [q] at e
  exact congrArg some e
 ·rename_i q
  rw [q] at e
  have a:es.toList.any (·.refKey)=false:=by
   rw [List.any_eq_false]
   intro y hy
   obtain ⟨z,t,hkey⟩:=hk y (Array.mem_toList_iff.mp hy)
   simp [DictEntry.refKey,hkey]
  have a':¬es.toList.any (·.refKey)=true:=by rw [a]; exact aY
  rw [if_neg a']
  exact congrArg some e
variable {C:Addr}
theorem ObjM.look {x:Addr} (I:ObjM h x dx C mA):∃ od,PySem.W.InstAt h x (cw C dx) C (some od)/\∀ name,fg name od=some (mA name):=
 let ⟨od,ho,hl⟩:=XN I.ns
 ⟨od,⟨I.obj,rfl,rfl,ho⟩,hl⟩
theorem RelO.some_of {o:Option Value} (r:RelO (some v) o):∃ u,o=some u/\RelV v u:=by
 cases o with
 | none=>exact (show False from r).elim
 | some u=>exact ⟨u,rfl,r⟩
section
variable {fs:List (Str×V)} {f:Str}
theorem Inv.made (I:Inv X pins σ H s):Inv X pins σ (upd (upd H s.heap.objs.size (.own (s.heap.objs.size+1))) (s.heap.objs.size+1) (.ins C s.heap.objs.size []))
  { s with heap:=(s.heap.push bH).push (cw C s.heap.objs.size) }:=by
 have e1:(s.heap.push bH).get? s.heap.objs.size=some bH:=ah s.heap rfl
 have e2:((s.heap.push bH).push (cw C s.heap.objs.size)).get? (s.heap.objs.size+1)=some (cw C s.heap.objs.size):=by
  have:=ah (s.heap.push bH) (o:=cw C s.heap.objs.size) rfl
  rwa [cj] at this
 have e3:(s.heap.push bH).Ns s.heap.objs.size (fun _=>none):=⟨bH,#[],_,e1,rfl,(fun e he=>absurd he (by simp)),fun _=>rfl⟩
 have I1:=I.laid (a:=s.heap.objs.size) (o:=.own (s.heap.objs.size+1)) (h':=s.heap.push bH) (t':=s.toks) (fun b u q=>aa _ q) (ao _) ⟨_,e1⟩
 refine I1.laid (a:=s.heap.objs.size+1) (o:=.ins C s.heap.objs.size []) (t':=s.toks) (fun b u q=>aa _ q) (dQ (cj _ _)) ?_
 have ne:s.heap.objs.size≠s.heap.objs.size+1:=aA (Nat.lt_succ_self _)
 refine ⟨by rw [qD ne,qw],bB _,ne,e2,fun _=>none,(Heap.Ns1.of_empty e3).at fun o q=>aa _ q,fun _=>c9,fun y hy=>absurd rfl hy⟩
end
structure Room (k:Nat) (A:Around):Prop where
 hd:A.handled=none
 dp:A.depth+3 * k+5 < recursionLimit
 un:A.units+16 * k+200 < cLine
theorem Room.mono {k:Nat} (r:Room k A) (h:j<=k):Room j A:=⟨r.hd,by have:=r.dp; omega,by have:=r.un; omega⟩
theorem Room.deeper {k:Nat} (r:Room (k+1) A) (env:Env):Room k (A.deeper env):=
 ⟨r.hd,by have:=r.dp; show A.depth+1+3 * k+5 < _; omega,by have:=r.un; show A.units+3+16 * k+200 < _; omega⟩
theorem Room.in1 {k:Nat} (r:Room (k+1) A):Room k A.in1:=
 ⟨r.hd,by have:=r.dp; show A.depth+3 * k+5 < _; omega,by have:=r.un; show A.units+1+16 * k+200 < _; omega⟩
theorem Room.depth {k:Nat} (r:Room k A):A.depth < recursionLimit:=by have:=r.dp; omega
theorem Room.units {k:Nat} (r:Room k A):A.units+64 < cLine:=by have:=r.un; omega
def qfO:TA:=fun _ H Q=>Q [] H
def YG (ta:TE) (tr:TA):TA:=fun σ H Q=>ta σ H fun x H1=>tr σ H1 fun xs H2=>Q (x::xs) H2
section
variable {t:TA}
theorem jM:PA X [] qfO:=⟨fun _ _ _ _ H Q I h=>dZ ⟨[],H,I,.nil,h⟩⟩
theorem qT (ha:PE X e te) (hr:PA X es t) (hs:starEach (e::es) X.env=(false,eval e X.env)::starEach es X.env:=by rfl):PA X (e::es) (YG te t):=by
 refine ⟨?_⟩
 intro pos pins s σ H Q I h
 rw [hs]
 show wpAny _ _ (spliced ((false,eval e X.env)::backTo pos (starEach es X.env))) _ _ s
 refine dq (thn (ha pins s σ H _ I h) fun u s1 ⟨x,H1,I1,r1,q1⟩=>?_)
 exact thn (hr pos pins s1 σ H1 _ I1 q1) fun us s2 ⟨xs,H2,I2,r2,q2⟩=>⟨x::xs,H2,I2,.cons r1 r2,q2⟩
def qhI (t:TA):TE:=fun σ H Q=>t σ H fun xs H1=>xs.length<=sizeLine/\∀ p,H1 p=none->Q (.ref p) (upd H1 p (.tup xs))
def qhJ (t:TA):TE:=fun σ H Q=>t σ H fun xs H1=>xs.length<=sizeLine/\∀ p,H1 p=none->Q (.ref p) (upd H1 p (.lst xs))
theorem qek {x1} (h:PA X es t):PE X (.Tuple es x1 pos) (qhI t):=by
 refine ⟨?_⟩
 intro pins s σ H Q I hq
 refine wpAny_Tuple_spliced (thn (h pos pins s σ H _ I hq) fun us s1 ⟨xs,H1,I1,r,z,q⟩=>⟨by rw [<-r.length]; exact z,?_⟩)
 have hf:H1 s1.heap.objs.size=none:=I1.hok.fresh (ao _)
 refine ⟨.ref s1.heap.objs.size,upd H1 s1.heap.objs.size (.tup xs),I1.laid (t':=s1.toks) (fun b u e=>aa _ e) (ao _) ?_,rfl,q _ hf⟩
 exact ⟨⟨z,_,ah _ rfl,rfl⟩,us,r,⟨_,ah _ rfl,rfl,_,rfl⟩⟩
theorem qel (h:PA X es t):PE X (.List es pos) (qhJ t):=by
 refine ⟨?_⟩
 intro pins s σ H Q I hq
 refine wpAny_List_spliced (thn (h pos pins s σ H _ I hq) fun us s1 ⟨xs,H1,I1,r,z,q⟩=>⟨by rw [<-r.length]; exact z,?_⟩)
 have hf:H1 s1.heap.objs.size=none:=I1.hok.fresh (ao _)
 refine ⟨.ref s1.heap.objs.size,upd H1 s1.heap.objs.size (.lst xs),I1.laid (t':=s1.toks) (fun b u e=>aa _ e) (ao _) ?_,rfl,q _ hf⟩
 exact ⟨z,us,0,r,ah _ rfl⟩
end
abbrev Sp:=List V->Hp->VK->XK->Prop
abbrev CXT:=List Env->Hp->Shared->XK->Value->Shared->Prop
structure Env0 (P:Program) (w:World) (K:Frag) (mg:Str->Option Value) (base:Heap) (A:Around) (outer:List Env) (s:Shared) (H:Hp):Prop where
 frames:A.frames=some outer
 mod:Mod K mg base
 bs:∀ b o,base.get? b=some o->s.heap.get? b=some o/\H b=none
 bsz:base.objs.size<=s.heap.objs.size
 funs:s.heap.FunFrames base outer
 frf:∀ b∈frs outer,H b=none
 hok:HOk P w H s.heap
 bare:AllBare s.gens
def CE (outer:List Env) (P:Program) (w:World) (H:Hp) (s:Shared) (Q:VK) (u:Value) (s':Shared):Prop:=
 ∃ v H',s'.os=s.os/\AllBare s'.gens/\Un (frs outer) [] H H' s.heap s'.heap/\HOk P w H' s'.heap/\RelV v u/\Q v H'
def CR (CX:CXT) (outer:List Env) (P:Program) (w:World) (H:Hp) (s:Shared) (Q:VK) (E:XK) (r:Result) (s':Shared):Prop:=
 match r with
 | .ok (.ret u)=>CE outer P w H s Q u s'
 | .ok _=>False
 | .error e=>CX outer H s E e s'
structure FnOk (P:Program) (w:World) (K:Frag) (mg:Str->Option Value) (base:Heap) (CX:CXT) (k:Nat) (f:Addr) (fd:FuncData) (ps:List Str) (sp:Sp):Prop where
 len:∀ vs H Q E,sp vs H Q E->vs.length=ps.length
 run:∀ (A:Around) (outer:List Env) (s:Shared) (H:Hp) (args:Args) (us:List Value) (vs:List V) (Q:VK) (E:XK),Room k A->Env0 P w K mg base A outer s H->BindsTo s fd args (ps.zip us)->Vals vs us->sp vs H Q E ->
  codeAny (model P w) A (.call (.ref f) args) (CR CX outer P w H s Q E) s
variable {f:Addr} {mg:Str->Option Value} {base:Heap} {CX:CXT} {fd:FuncData} {ps:List Str} {sp:Sp}
theorem FnOk.mono {k:Nat} (F:FnOk P w K mg base CX j f fd ps sp) (h:j<=k) :
  FnOk P w K mg base CX k f fd ps sp:=⟨F.len,fun A outer s H args us vs Q E hr=>F.run A outer s H args us vs Q E (hr.mono h)⟩
theorem FnOk.imp {k:Nat} {sp':Sp} (F:FnOk P w K mg base CX k f fd ps sp)
  (h:∀ vs H Q E,sp' vs H Q E->sp vs H Q E):FnOk P w K mg base CX k f fd ps sp':=
 ⟨fun vs H Q E q=>F.len vs H Q E (h _ _ _ _ q),fun A outer s H args us vs Q E hr he hb hv hs=>F.run A outer s H args us vs Q E hr he hb hv (h _ _ _ _ hs)⟩
theorem Env0.in1 {outer:List Env} (e:Env0 P w K mg base A outer s H) :
  Env0 P w K mg base A.in1 outer s H:=⟨e.frames,e.mod,e.bs,e.bsz,e.funs,e.frf,e.hok,e.bare⟩
section
theorem Inv.env0 (I:Inv X pins σ H s):Env0 X.prog X.w X.K X.mg X.base X.A X.stack s H:=
 ⟨I.ok.frames,I.ok.mod,I.bs,bU I.ok.bsz I.sz,I.stack,I.stkFree,I.hok,I.bare⟩
theorem Inv.after {Q:VK} (I:Inv X pins σ H s) (h:CE X.stack X.prog X.w H s Q u s'):EP X pins σ Q u s':=by
 obtain ⟨v,H',os,bare,un,hok,r,q⟩:=h
 obtain ⟨hh,g,d,t,os'⟩:=s'
 obtain rfl:os'=s.os:=os
 exact ⟨v,H',I.call (h':=hh) (g':=g) (d':=d) (t':=t) (ch:=[]) un hok bare (fun b z=>absurd z (by simp)),r,q⟩
end
def qgp (sp:Sp) (dvs:List V) (E:XK) (t:TA):TE:=fun σ H Q=>t σ H fun vs H1=>sp (vs++dvs) H1 Q E
def Binds (K:Frag) (fd:FuncData) (ps:List Str) (ds:List Value):Prop:=
 ∀ (s:Shared) (us:List Value),K.In s.heap->(us++ds).length=ps.length->BindsTo s fd ⟨us,[]⟩ (ps.zip (us++ds))
theorem Binds.all (h:∀ us:List Value,us.length=ps.length->bindArgs fd ⟨us,[]⟩=pure (ps.zip us)):Binds K fd ps []:=fun s us _ hl=>by
 rw [bf] at hl ⊢
 exact .of_eq (h us hl)
def vY (CX:CXT) (X:Cx) (E:XK):Prop:=∀ (pins:List (Addr×Obj)) (σ:St) (H:Hp) (s:Shared) (e:Value) (s':Shared),Inv X pins σ H s->CX X.stack H s E e s'->X.xe e s'
variable {apos:Pos}
section
variable {k:Nat} {dvs:List V} {ds:List Value} {E:XK} {m:Str} {o:Expr} {t:TA}
theorem qb1 {pins:List (Addr×Obj)} {σ:St} {H:Hp} {s:Shared} {Q:VK} {us:List Value} {vs:List V} (F:FnOk X.prog X.w X.K X.mg X.base CX k f fd ps sp) (hr:Room k X.A) (hb:Binds X.K fd ps ds) (hd:Vals dvs ds) (hx:vY CX X E)
  (I:Inv X pins σ H s) (r:Vals vs us) (h:sp (vs++dvs) H Q E):wpAny (model X.prog X.w) X.A (call (.ref f) us) (EP X pins σ Q) X.xe s:=by
 have r2:Vals (vs++dvs) (us++ds):=r.append hd
 have hl:(us++ds).length=ps.length:=by rw [<-r2.length]; exact F.len _ _ _ _ h
 refine wpAny_call (codeAny_mono (F.run X.A X.stack s H ⟨us,[]⟩ (us++ds) (vs++dvs) Q E hr I.env0 (hb s us I.kIn hl) r2 h) fun r s' hq=>?_)
 cases r with
 | error e=>exact hx pins σ H s e s' I hq
 | ok fl=>
  cases fl with
  | ret u=>exact I.after hq
  | next=>exact bS hq
  | brk=>exact bS hq
  | cont=>exact bS hq
theorem qcD (F:FnOk X.prog X.w X.K X.mg X.base CX k f fd ps sp) (hr:Room k X.A) (hg:Gl X x) (hm:X.mg x=some (.ref f)) (hk:keepIn X.K (.ref f)=true) (hb:Binds X.K fd ps ds) (hd:Vals dvs ds) (hx:vY CX X E)
  (ha:PA X (e::es) t) (hdb:(x == ("__debug__":Str))=false:=by decide) (he:starEach (e::es) X.env=(false,eval e X.env)::starEach es X.env:=by rfl) (hpl:(backTo pos (starEach es X.env)).any (·.1)=false:=by rfl) :
  PE X (.Call (.Name x p) (e::es) [] pos) (qgp sp dvs E t):=by
 refine ⟨?_⟩
 intro pins s σ H Q I h
 refine wpAny_Call_Name_kw (xp I hg hm ?_ hdb)
 refine dW (h₀:=X.base) I.ok.mod.kin hk (thn (ha pos pins s σ H _ I h) fun us s1 ⟨vs,H1,I1,r,q⟩=>⟨I1.kIn,?_⟩) he hpl
 exact qb1 F hr hb hd hx I1 r q
end
section
variable {k:Nat} {ks:List Str} {E:XK} {m:Str} {kpos:Pos} {o:Expr} {kws:List Keyword} {t tk:TA} {nm:Option Str}
variable {g:List Value->List Value->List Value} {gV:List V->List V->List V}
end
structure FnScope (N P:List Str) (sc:Scope):Prop where
 kind:sc.kind=.function
 co:sc.isCoroutine=false
 gen:sc.isGenerator=false
 nd:N.Nodup
 pre:N.take P.length=P
 par:∀ x∈P,sc.names.lookup x=some .local\/sc.names.lookup x=some .cell
 nofree:∀ y∈sc.names,y.2≠.free
variable {kindOf:Str->Option NameKind}
theorem Kw:∀ {binds:List (Str×Value)} {m:Str->Option Value},(∀ v,(x,v)∉binds)->bindL kindOf binds m x=m x
 | [],_,_=>rfl
 | (n,v)::r,m,h=>by
  unfold bindL
  rw [Kw fun w hw=>h w (ae _ hw)]
  split
  ·have:x≠n:=by rintro rfl; exact h v aw
   simp [this]
  ·rfl
theorem Ky:∀ {binds:List (Str×Value)} {m:Str->Option Value},(∀ v,(x,v)∉binds)->bindC kindOf binds m x=m x
 | [],_,_=>rfl
 | (n,v)::r,m,h=>by
  unfold bindC
  rw [Ky fun w hw=>h w (ae _ hw)]
  split
  ·rfl
  ·have:x≠n:=by rintro rfl; exact h v aw
   simp [this]
theorem zY {kindOf:Str->Option NameKind} {x:Str} {v:Value}:∀ {P:List Str} {vs:List Value} {i:Nat} {m:Str->Option Value},P.Nodup->P[i]?=some x->vs[i]?=some v->kindOf x=some .local ->
  bindL kindOf (P.zip vs) m x=some v
 | [],_,_,_,_,h,_,_=>by simp at h
 | _::_,[],_,_,_,_,h,_=>by simp at h
 | p::P,w::vs,0,m,nd,h1,h2,hk=>by
  simp at h1 h2; subst h1; subst h2
  show bindL kindOf ((p,w)::P.zip vs) m p=_
  unfold bindL
  rw [Kw fun v hv=>(aL.mp nd).1 (dN hv).1,if_pos hk]
  simp
 | p::P,w::vs,i+1,m,nd,h1,h2,hk=>by
  show bindL kindOf ((p,w)::P.zip vs) m x=_
  unfold bindL
  exact zY (i:=i) (aL.mp nd).2 (by simpa using h1) (by simpa using h2) hk
theorem zZ {kindOf:Str->Option NameKind} {x:Str} {v:Value}:∀ {P:List Str} {vs:List Value} {i:Nat} {m:Str->Option Value},P.Nodup->P[i]?=some x->vs[i]?=some v->kindOf x≠some .local ->
  bindC kindOf (P.zip vs) m x=some v
 | [],_,_,_,_,h,_,_=>by simp at h
 | _::_,[],_,_,_,_,h,_=>by simp at h
 | p::P,w::vs,0,m,nd,h1,h2,hk=>by
  simp at h1 h2; subst h1; subst h2
  show bindC kindOf ((p,w)::P.zip vs) m p=_
  unfold bindC
  rw [Ky fun v hv=>(aL.mp nd).1 (dN hv).1,if_neg hk]
  simp
 | p::P,w::vs,i+1,m,nd,h1,h2,hk=>by
  show bindC kindOf ((p,w)::P.zip vs) m x=_
  unfold bindC
  exact zZ (i:=i) (aL.mp nd).2 (by simpa using h1) (by simpa using h2) hk
noncomputable def vQ (N:List Str) (vs:List V):St:=vs.map some++aE (N.length - vs.length) none
def qcE (CX:CXT) (P:Program) (w:World) (K:Frag) (mg:Str->Option Value) (base:Heap) (N:List Str) (qual:Str) (scope:Scope) (f:Addr) (cd:Value) (A:Around) (outer:List Env) (s:Shared) (H:Hp) (E:XK):Cx where
 prog:=P
 w:=w
 K:=K
 mg:=mg
 base:=base
 A:=A.deeper (envOfC qual scope s.heap.objs.size f cd)
 N:=N
 s₀:=s
 H₀:=H
 env:=envOfC qual scope s.heap.objs.size f cd
 outer:=outer
 stack:=envOfC qual scope s.heap.objs.size f cd::outer
 ex:=[]
 calm:=true
 fn:=fun _=>true
 pn:=[]
 xe:=fun e s'=>wpAny (model P w) (A.deeper (envOfC qual scope s.heap.objs.size f cd)) (leaving (envOfC qual scope s.heap.objs.size f cd) e) (fun _ s''=>CX outer H s E e s'') (fun e' s''=>CX outer H s E e' s'') s'
theorem zB {sc:Scope} {n:Nat} (h:sc.names.lookup x=some .cell):∃ c,(cellsFrom n sc.names []).lookup x=some c:=by
 have q:=dB sc.names n [] (.inl h)
 exact Option.isSome_iff_exists.mp q
theorem XO {CX:CXT} {P:Program} {w:World} {K:Frag} {mg:Str->Option Value} {base:Heap} {N ps:List Str} {qual:Str} {scope:Scope} {f:Addr} {cd:Value} {A:Around} {outer:List Env} {s s1:Shared} {H:Hp} {E:XK} {us:List Value} {vs:List V}
  (S:FnScope N ps scope) (hd:A.handled=none) (e0:Env0 P w K mg base A outer s H) (hl:vs.length=ps.length) (r:Vals vs us)
  (x:InCallC s s.heap.objs.size (bindL (envOfC qual scope s.heap.objs.size f cd).kindOf (ps.zip us) fun _=>none) (cellsFrom (s.heap.objs.size+1) scope.names []) (bindC (envOfC qual scope s.heap.objs.size f cd).kindOf (ps.zip us) fun _=>none) s1) :
  Inv (qcE CX P w K mg base N qual scope f cd A outer s H E) [] (vQ N vs) H s1:=by
 have hpl:ps.length<=N.length:=by have:=congrArg fC S.pre; rw [eG] at this; omega
 obtain ⟨h1,tk,rfl,hk⟩:=x.done
 have noA:∀ b:Addr,b∉(qcE CX P w K mg base N qual scope f cd A outer s H E).ex:=fun b z=>absurd (show b∈([]:List Addr) from z) (by simp)
 refine ⟨⟨e0.mod,S.kind,rfl,rfl,ao _,fun y z c h1 h2=>?_,fun y hy=>?_,fun y c _ h=>?_,fun _=>hd,Around.frames_deeper e0.frames,.inr ⟨rfl,rfl⟩,fun b z=>absurd z (noA b),e0.bs,e0.bsz,fun b _ _=>noA b,fun b z=>absurd z (noA b),e0.funs,e0.frf⟩,
  rfl,e0.bare,Un.kept hk,⟨_,x.toInCall.ns,fun i y v h1 h2 h3=>?_⟩,fun y c h=>⟨_,x.cell y c h⟩,e0.hok.fresh (ao _),fun y c h=>?_,fun p hp=>absurd (show p∈([]:List (Addr×Obj)) from hp) (by simp),e0.hok.kept hk,?_⟩
 ·exact name_of_addr x.apart (be h1) (be h2)
 ·have hy:scope.names.lookup y=some .cell\/scope.names.lookup y=some .free:=hy
  rcases hy with hy | hy
  ·exact zB hy
  ·exact absurd rfl (S.nofree _ (be hy))
 ·exact cU (x.above y c (be h))
 ·have hi:i < vs.length:=by
   unfold vQ at h2
   by_cases hi:i < vs.length
   ·exact hi
   ·rw [bI (by simpa using hi)] at h2
    rw [bg] at h2
    split at h2 <;> cases h2
  have ha:vs[i]?=some v:=by
   unfold vQ at h2
   rw [cr (by simpa using hi),aH] at h2
   cases e:vs[i]? with
   | none=>rw [e] at h2; cases h2
   | some a=>rw [e] at h2; cases h2; rfl
  obtain ⟨u,hu,rv⟩:=r.get ha
  have hp:ps[i]?=some y:=by
   rw [<-S.pre,List.getElem?_take_of_lt (by omega)]; exact h1
  have ndP:ps.Nodup:=by rw [<-S.pre]; exact S.nd.sublist (List.take_sublist _ _)
  refine ⟨u,rv,?_⟩
  rcases S.par y (cA hp) with k | k
  ·exact .inl ⟨k,zY ndP hp hu k⟩
  ·obtain ⟨c,e⟩:=zB (n:=s.heap.objs.size+1) k
   refine .inr ⟨.inl k,c,e,?_⟩
   have q:=x.cell y c e
   rw [zZ ndP hp hu (by show scope.names.lookup y≠_; rw [k]; decide)] at q
   exact q
 ·exact e0.hok.fresh (cU (x.above y c (be h)))
 ·unfold vQ
  show _=N.length
  rw [af,aB,c6]
  omega
theorem qgq {CX:CXT} {P:Program} {w:World} {K:Frag} {mg:Str->Option Value} {base:Heap} {k:Nat} {f:Addr} {name qual:Str} {params:Arguments} {body:List Stmt} {scope:Scope} {dV kV doc pm cdv ct oc:Value} {an od:Option Addr}
  {osl:Array (Option Value)} {N ps:List Str} {sp:Sp} (lk:K.lookup f=some ⟨oc,od,.func (bJ name qual params body scope dV kV doc pm an cdv ct),osl⟩) (hcd:codeIn K cdv qual=true) (S:FnScope N ps scope)
  (len:∀ vs H Q E,sp vs H Q E->vs.length=ps.length)
  (hbody:∀ (A:Around) (outer:List Env) (s:Shared) (H:Hp) (vs:List V) (Q:VK) (E:XK),Room k (A.deeper (envOfC qual scope s.heap.objs.size f cdv))->sp vs H Q E ->
   ∃ t,PSs (qcE CX P w K mg base N qual scope f cdv A outer s H E) body t/\t { nx:=fun _ H'=>Q .non H',rt:=Q } (vQ N vs) H) :
  FnOk P w K mg base CX (k+1) f (bJ name qual params body scope dV kV doc pm an cdv ct) ps sp:=by
 refine ⟨len,fun A outer s H args us vs Q E hr e0 hb r hsp=>?_⟩
 have hl:=len _ _ _ _ hsp
 have KX:K.In s.heap:=e0.mod.kin.keeps fun b o e=>(e0.bs b o e).1
 have lim:s.heap.NoLimit:=e0.mod.nolimit.keeps fun b o e=>(e0.bs b o e).1
 have hkind:∀ y∈ps.zip us,scope.names.lookup y.1=some .local\/(scope.names.lookup y.1=some .cell/\((cellsFrom (s.heap.objs.size+1) scope.names []).lookup y.1).isSome=true):=fun ⟨n,v⟩ hy=>by
  rcases S.par n (dN hy).1 with q | q
  ·exact .inl q
  ·exact .inr ⟨q,dB _ _ _ (.inl q)⟩
 refine codeAny_call_function hr.depth (KX _ _ lk) rfl S.co S.gen rfl (PySem.W.codeRec_of KX hcd) (hb _ _ _ _ ?_)
 refine wpAny_newFunctionEnv_cells S.kind hkind fun env he s1 x=>?_
 subst he
 refine ⟨lim.keeps x.toInCall.keep,codeAny_func ?_⟩
 obtain ⟨t,ht,hq⟩:=hbody A outer s H vs Q E (hr.deeper _) hsp
 have I:Inv (qcE CX P w K mg base N qual scope f cdv A outer s H E) [] (vQ N vs) H s1:=XO S hr.hd e0 hl r x
 refine wpAny_mono (ht [] s1 (vQ N vs) H _ I hq) (fun fl s' hs=>?_) fun e s' hs=>hs
 have fin:∀ {σ':St} {H':Hp} {v:V} {u:Value},Inv (qcE CX P w K mg base N qual scope f cdv A outer s H E) [] σ' H' s'->RelV v u->Q v H'->CE outer P w H s Q u s':=
  fun {σ' H' v u} J rv q=>⟨v,H',J.os,J.bare,J.base,J.hok,rv,q⟩
 cases fl with
 | ret u=>
  obtain ⟨v,σ',H',J,rv,q⟩:=hs
  exact fin J rv q
 | next=>
  obtain ⟨σ',H',J,q⟩:=hs
  exact fin (v:=V.non) (u:=cC) J rfl q
 | brk=>
  obtain ⟨_,_,_,q⟩:=hs
  exact bS q
 | cont=>
  obtain ⟨_,_,_,q⟩:=hs
  exact bS q
section
variable {t:TA} {id T:String} {r:List V->Hp->VK->Prop}
def tCB (r:List V->Hp->VK->Prop) (t:TA):TE:=fun σ H Q=>t σ H fun vs H1=>r vs H1 Q
theorem wn (hc:ub X (.builtin id) r) (hg:Gl X x) (hm:X.mg x=none) (hv:bootBuiltins x=some (.builtin id)) (ha:PA X (e::es) t) (hn:x ≠ "__name__":=by decide) (hdb:(x == ("__debug__":Str))=false:=by decide)
  (he:starEach (e::es) X.env=(false,eval e X.env)::starEach es X.env:=by rfl) (hpl:(backTo pos (starEach es X.env)).any (·.1)=false:=by rfl):PE X (.Call (.Name x p) (e::es) [] pos) (tCB r t):=by
 refine ⟨?_⟩
 intro pins s σ H Q I h
 refine wpAny_Call_Name_kw (zX I hg hm hv ?_ hn hdb)
 exact PyProof.Rows.callWith_builtin1 (thn (ha pos pins s σ H _ I h) fun us s1 ⟨vs,H1,I1,r1,q1⟩=>hc pins s1 σ H1 vs us Q I1 r1 q1) he hpl
theorem uc (hc:ub X (.type T) r) (hg:Gl X x) (hm:X.mg x=none) (hv:bootBuiltins x=some (.type T)) (ha:PA X (e::es) t) (hn:x ≠ "__name__":=by decide) (hdb:(x == ("__debug__":Str))=false:=by decide)
  (he:starEach (e::es) X.env=(false,eval e X.env)::starEach es X.env:=by rfl) (hpl:(backTo pos (starEach es X.env)).any (·.1)=false:=by rfl):PE X (.Call (.Name x p) (e::es) [] pos) (tCB r t):=by
 refine ⟨?_⟩
 intro pins s σ H Q I h
 refine wpAny_Call_Name_kw (zX I hg hm hv ?_ hn hdb)
 exact bF (thn (ha pos pins s σ H _ I h) fun us s1 ⟨vs,H1,I1,r1,q1⟩=>hc pins s1 σ H1 vs us Q I1 r1 q1) he hpl
end
end L2
namespace HT
open PySem PyProof.Rows
section
open PySem.SeqAt
open PySem.AutoSeq1 (wpAny_loadPart')
open PySem.MeetsSeq PySem.MeetsSeq2 PySem.MeetsSeq3
end
section
variable {prog:Program} {w:World} {A:Around} {E:Value->Shared->Prop} {s:Shared}
theorem cat_tup {t b:Addr} {vs ws:List Value} {Q:Value->Shared->Prop} (ht:IsTup s.heap t vs.toArray) (hb:IsTup s.heap b ws.toArray) (hv:vs≠[])
  (h1:ws=[]->Q (.ref t) s) (h2:ws≠[]->Q (.ref s.heap.objs.size) { s with heap:=s.heap.push { cls:=.type "tuple",data:=.seq (vs++ws).toArray } })
  (hsz:vs.length+ws.length<=sizeLine):wpAny (model prog w) A (binaryOp .Add (.ref t) (.ref b)) Q E s:=by
 obtain ⟨⟨cls,dd,data,sl⟩,ho,hc,n,hd⟩:=id ht
 obtain ⟨⟨cls2,dd2,data2,sl2⟩,ho2,hc2,n2,hd2⟩:=id hb
 simp only at hc hd hc2 hd2
 subst hc hd hc2 hd2
 have e:vs.toArray++ws.toArray=(vs++ws).toArray:=by simp
 by_cases hw:ws=[]
 ·exact concat_meets ⟨_,ho,rfl⟩ ⟨_,ho2,rfl⟩ noFill_tuple_add seq_tuple_add dD dw (df _ _)
   (tuple_addW1 t b vs.toArray ws.toArray n n2 dd dd2 sl sl2 (by simpa using hv) (by simp [hw])) ⟨ho,ho2,h1 hw⟩
 ·refine concat_meets ⟨_,ho,rfl⟩ ⟨_,ho2,rfl⟩ noFill_tuple_add seq_tuple_add dD dw (df _ _)
   (tuple_addW2 t b vs.toArray ws.toArray n n2 dd dd2 sl sl2 (by simpa using hv) (by simpa using hw) (by rw [ak,ak]; exact hsz)) ⟨ho,ho2,?_⟩
  rw [e]
  exact h2 hw
theorem slicePart_ {v:Value} {o:Option Int} {Q:Option Int->Shared->Prop} (p:IsPart v o) (h:Q o s):wpAny (model prog w) A (Builtin.Slice.slicePartIndex v) Q E s:=by
 cases p with
 | none=>exact slicePart_none h
 | int i t=>exact slicePart_int h
end
end HT
namespace L2
open PySem PySem.Spec PyProof.Rows
abbrev TO:=St->Hp->(Option Int->Hp->Prop)->Prop
def PO (X:Cx) (e:Option Expr) (t:TO):Prop:=
 ∀ (pins:List (Addr×Obj)) (s:Shared) (σ:St) (H:Hp) (Q:Option Int->Hp->Prop),Inv X pins σ H s->t σ H Q ->
  wpAny (model X.prog X.w) X.A (evalPart e X.env) (fun u s'=>∃ o H',Inv X pins σ H' s'/\IsPart u o/\Q o H') X.xe s
def qcF:TO:=fun _ H Q=>Q none H
def qgr (t:TE):TO:=fun σ H Q=>t σ H fun x H1=>∃ i,x=.int i/\Q (some i) H1
variable {X:Cx} {e:Expr} {pos:Pos} {xs:List V} {us:List Value}
section
variable {te:TE} {lo hi:Option Expr} {tl th:TO} {p2:Pos}
theorem qcG:PO X none qcF:=by
 intro pins s σ H Q I h
 rw [evalPart_none]
 exact wpAny_pure ⟨none,H,I,.none,h⟩
theorem qcH (h:PE X e te):PO X (some e) (qgr te):=by
 intro pins s σ H Q I hw
 rw [evalPart_some]
 refine thn (h pins s σ H _ I hw) fun u s1 ⟨x,H1,I1,r1,q1⟩=>?_
 obtain ⟨i,rfl,q⟩:=q1
 obtain ⟨t,rfl⟩:=r1
 exact ⟨some i,H1,I1,.int i t,q⟩
def qgs (K:Frag):R2:=fun x y H Q=>∃ a b xs ys,x=.ref a/\y=.ref b/\SqT K H a xs/\SqT K H b ys/\xs≠[]/\xs.length+ys.length<=sizeLine /\
 (ys=[]->Q (.ref a) H)/\(ys≠[]->∀ p,H p=none->Q (.ref p) (upd H p (.tup (xs++ys))))
theorem Vals.nil_iff (r:Vals xs us):us=[]↔xs=[]:=by
 cases r with
 | nil=>simp
 | cons _ _=>simp
theorem qcI:OpR X (binaryOp .Add) (qgs X.K):=by
 intro pins s σ H x y v u Q I rx ry h
 obtain ⟨a,b,xs,ys,rfl,rfl,ha,hb,hx,hz,q1,q2⟩:=h
 cases rx
 cases ry
 obtain ⟨its,r1,p1,_⟩:=I.tuple ha
 obtain ⟨its2,r2,p2,_⟩:=I.tuple hb
 refine HT.cat_tup p1 p2 (fun z=>hx (r1.nil_iff.mp z)) (fun z=>⟨.ref a,H,I,rfl,q1 (r2.nil_iff.mp z)⟩) (fun z=>?_) (by rw [<-r1.length,<-r2.length]; exact hz)
 refine ⟨.ref s.heap.objs.size,_,I.laid (t':=s.toks) (o:=.tup (xs++ys)) (fun b ob q=>aa _ q) (ao _) ?_,rfl,q2 (fun w=>z (r2.nil_iff.mpr w)) _ (I.hok.fresh (ao _))⟩
 exact ⟨⟨by rw [af]; exact hz,_,ah _ rfl,rfl⟩,_,r1.append r2,fB _ _⟩
end
noncomputable def ixN (n:Nat) (i:Int):Option Nat:=if 0<=i then (if i < n then some i.toNat else none) else if -(n:Int)<=i then some (i+n).toNat else none
variable {α:Type}
noncomputable def atI (xs:List α) (i:Int):Option α:=(ixN xs.length i).bind fun j=>xs[j]?
variable {n j:Nat} {i:Int}
theorem XQ (h:ixN n i=some j):seqIndex? i n=some j/\j < n/\-(n:Int)<=i/\i < n:=by
 unfold ixN at h
 by_cases h0:0<=i
 ·rw [if_pos h0] at h
  by_cases h1:i < n
  ·rw [if_pos h1] at h
   have e:i.toNat=j:=aK.inj h
   exact ⟨by rw [seqIndex_of h0 h1,e],by omega,by omega,h1⟩
  ·rw [if_neg h1] at h; cases h
 ·rw [if_neg h0] at h
  by_cases h1:-(n:Int)<=i
  ·rw [if_pos h1] at h
   have e:(i+n).toNat=j:=aK.inj h
   exact ⟨by rw [seqIndex_neg (by omega) h1,e],by omega,h1,by omega⟩
  ·rw [if_neg h1] at h; cases h
theorem We {xs:List α} {v:α} (h:atI xs i=some v):∃ j,seqIndex? i xs.length=some j/\xs[j]?=some v/\j < xs.length/\-(xs.length:Int)<=i/\i < xs.length:=by
 unfold atI at h
 cases e:ixN xs.length i with
 | none=>rw [e] at h; cases h
 | some j=>
  rw [e] at h
  obtain ⟨h1,h2,h3,h4⟩:=XQ e
  exact ⟨j,h1,h,h2,h3,h4⟩
theorem ud {xs:List α} {v:α} (h:xs[j]?=some v):atI xs (j:Int)=some v:=by
 have hj:j < xs.length:=(au.mp h).1
 have e:ixN xs.length (j:Int)=some j:=by
  unfold ixN
  rw [if_pos (by omega),if_pos (by omega)]; simp
 unfold atI; rw [e]; exact h
def Wf (b:Expr):Prop:=∀ o i,subscripted b false o i=operate [o,i] (getItem o i)
def IxR (X:Cx) (r:R2):Prop:=
 ∀ (value slice:Expr) (pins:List (Addr×Obj)) (s:Shared) (σ:St) (H:Hp) (x y:V) (v u:Value) (Q:VK),Inv X pins σ H s->RelV x v->RelV y u->r x y H Q ->
  subscripted slice false v u=operate [v,u] (getItem v u)->wpAny (model X.prog X.w) X.A (subscriptTail value slice v u) (EP X pins σ Q) X.xe s
def MtR (X:Cx) (id:String) (r:V->List V->Hp->VK->Prop):Prop:=
 ∀ (pins:List (Addr×Obj)) (s:Shared) (σ:St) (H:Hp) (x:V) (xs:List V) (v:Value) (us:List Value) (Q:VK),Inv X pins σ H s->RelV x v->Vals xs us->r x xs H Q ->
  wpAny (model X.prog X.w) X.A (call (.builtin id) (v::us)) (EP X pins σ Q) X.xe s
variable {pins:List (Addr×Obj)} {σ:St} {H:Hp} {s:Shared} {p:Addr} {T:String}
section
variable {a b:Expr} {ta tb:TE}
theorem IxR.or {r r':R2} (h:IxR X r) (h':IxR X r'):IxR X (fun x y H Q=>r x y H Q\/r' x y H Q):=by
 intro value slice pins s σ H x y v u Q I rx ry q hs
 rcases q with q | q
 ·exact h value slice pins s σ H x y v u Q I rx ry q hs
 ·exact h' value slice pins s σ H x y v u Q I rx ry q hs
theorem qem {r:R2} (hr:IxR X r) (ha:PE X a ta) (hb:PE X b tb) (hs:Wf b):PE X (.Subscript a b pos) (tOp r ta tb):=by
 refine ⟨?_⟩
 intro pins s σ H Q I h
 exact Subscript_ (qgh ha hb I h fun v u s2 x y H2 I2 rx ry q=>hr a b pins s2 σ H2 x y v u Q I2 rx ry q (hs _ _))
def qg3 (K:Frag):R2:=fun x y H Q=>∃ p xs i v,x=.ref p/\y=.int i/\SqL K H p xs/\atI xs i=some v/\Q v H
def qg4 (K:Frag):R2:=fun x y H Q=>∃ p xs i v,x=.ref p/\y=.int i/\SqT K H p xs/\atI xs i=some v/\Q v H
def qg5:R2:=fun x y H Q=>∃ z i c,x=.str z/\y=.int i/\z.length<=sizeLine/\atI z.cps.toList i=some c/\Q (.str ⟨#[c]⟩) H
theorem ix_list:IxR X (qg3 X.K):=by
 intro value slice pins s σ H x y v u Q I rx ry h hs
 obtain ⟨p,xs,i,z,rfl,rfl,hq,he,q⟩:=h
 cases rx
 obtain ⟨t,rfl⟩:=ry
 obtain ⟨its,r,pl,hz⟩:=I.list hq
 obtain ⟨j,h1,h2,h3,h4,h5⟩:=We he
 obtain ⟨w,ew,rw'⟩:=r.get h2
 have hl:=r.length
 have hn:=QA
 have fin:EP X pins σ Q w s:=⟨z,H,I,rw',q⟩
 by_cases h0:0<=i
 ·have hj:i.toNat=j:=by
   rw [seqIndex_of h0 h5] at h1
   exact aK.inj h1
  exact item_listR pl.isList h0 (by omega) (by rw [hj]; simpa using ew) fin hs
 ·have hj:(i+(its.toArray.size:Int)).toNat=j:=by
   rw [seqIndex_neg (by omega) h4] at h1
   rw [ak,<-hl]
   exact aK.inj h1
  exact subscriptTail_builtinR (x:=w) pl.isList.typeIs slot_list_getitem.lookup
   (wpAny_getItem_list_neg (Q:=fun r s'=>r=w/\EP X pins σ Q r s') pl.isList (by omega) (by rw [ak] <;> omega) (by omega) (by rw [hj]; simpa using ew) ⟨rfl,fin⟩) hs
theorem ix_tup:IxR X (qg4 X.K):=by
 intro value slice pins s σ H x y v u Q I rx ry h hs
 obtain ⟨p,xs,i,z,rfl,rfl,hq,he,q⟩:=h
 cases rx
 obtain ⟨t,rfl⟩:=ry
 obtain ⟨its,r,pl,hz⟩:=I.tuple hq
 obtain ⟨j,h1,h2,h3,h4,h5⟩:=We he
 obtain ⟨w,ew,rw'⟩:=r.get h2
 have hl:=r.length
 have hn:=QA
 have fin:EP X pins σ Q w s:=⟨z,H,I,rw',q⟩
 exact subscriptTail_builtinR (x:=w) pl.typeIs slot_tuple_getitem.lookup
  (getItem_tuple (j:=j) (Q:=fun r s'=>r=w/\EP X pins σ Q r s') pl (by omega) (by omega) (by rw [ak,<-hl]; exact h1) (by simpa using ew) ⟨rfl,fin⟩) hs
theorem qen:IxR X qg5:=by
 intro value slice pins s σ H x y v u Q I rx ry h hs
 obtain ⟨z,i,c,rfl,rfl,hz,he,q⟩:=h
 obtain ⟨t,rfl⟩:=rx
 obtain ⟨t',rfl⟩:=ry
 obtain ⟨j,h1,h2,h3,h4,h5⟩:=We he
 have hl:z.cps.toList.length=z.length:=by simp [fz]
 rw [hl] at h1 h4 h5
 have hn:=QA
 exact tail_any (typeIs_str s z t) slot_str_getitem.lookup (getItem_str (c:=c) (by
  have e1:decide (i < -(2 ^ 63:Int))=false:=decide_eq_false (by omega)
  have e2:decide (i ≥ 2 ^ 63)=false:=decide_eq_false (by omega)
  rw [e1,e2,Bool.or_false]) (by rw [h1]; simpa using h2) ⟨.str ⟨#[c]⟩,H,I.tok _,⟨_,rfl⟩,q⟩) hs
def rIx (K:Frag):R2:=fun x y H Q=>qg3 K x y H Q\/qg4 K x y H Q\/qg5 x y H Q
theorem qeo:IxR X (rIx X.K):=ix_list.or (ix_tup.or qen)
theorem YH (its:List Value) (n j:Nat) (u:Value):cE (·.setIfInBounds j u) { cls:=.type "list",data:=.seq its.toArray n }={ cls:=.type "list",data:=.seq (its.set j u).toArray n }:=by
 simp [cE]
theorem Inv.lst (I:Inv X pins σ H s) (h:H p=some (.lst xs)) :
  ∃ (its:List Value) (n:Nat),Vals xs its/\s.heap.get? p=some { cls:=.type "list",data:=.seq its.toArray n }/\xs.length<=sizeLine:=by
 obtain ⟨z,its,n,r,e⟩:=I.hok p _ h
 exact ⟨its,n,r,e,z⟩
theorem Inv.lstUpd {ys:List V} {its its':List Value} {n n':Nat} {f:Obj->Obj} (I:Inv X pins σ H s) (h:H p=some (.lst xs))
  (ho:s.heap.get? p=some { cls:=.type "list",data:=.seq its.toArray n }) (hf:f { cls:=.type "list",data:=.seq its.toArray n }={ cls:=.type "list",data:=.seq its'.toArray n' }) (r:Vals ys its') (hz:ys.length<=sizeLine) (t:Nat) :
  Inv X pins σ (upd H p (.lst ys)) { s with heap:=s.heap.update p f,toks:=t }:=by
 have e:(s.heap.update p f).get? p=some { cls:=.type "list",data:=.seq its'.toArray n' }:=by
  rw [bb f ho (by rw [hf] <;> rfl),hf]
 refine I.write (x:=p) (e:=p) (by rw [h]; trivial) (.inl rfl) (fun b u hb q=>(cf _ _ (aX hb)).trans q) ⟨_,e⟩ ?_
 exact ⟨hz,its',n',r,e⟩
def qgt:V->V->V->Hp->(Hp->Prop)->Prop:=fun o i v H Q=>∃ p xs k j,o=.ref p/\i=.int k/\H p=some (.lst xs)/\ixN xs.length k=some j/\Q (upd H p (.lst (xs.set j v)))
theorem qaE:qg0 X qgt:=by
 intro pins s σ H o i v ov iv u Q I ro ri rv h
 obtain ⟨p,xs,k,j,rfl,rfl,hp,hj,q⟩:=h
 cases ro
 obtain ⟨t,rfl⟩:=ri
 obtain ⟨its,n,r,ho,hz⟩:=I.lst hp
 obtain ⟨h1,h2,h3,h4⟩:=XQ hj
 have hl:=r.length
 have hn:=QA
 have I':Inv X pins σ (upd H p (.lst (xs.set j v))) { s with heap:=s.heap.update p (cE (·.setIfInBounds j u)) }:=
  I.lstUpd hp ho (YH its n j u) (r.set rv j) (by rw [cX]; exact hz) s.toks
 by_cases h0:0<=k
 ·have hk:k.toNat=j:=by
   rw [seqIndex_of h0 h4] at h1
   exact aK.inj h1
  exact PySem.W.ki_setAt ho h0 (by omega) (by rw [ak,<-hl]; exact h4) (by rw [hk]; exact ⟨_,I',q⟩)
 ·have hk:(k+(its.toArray.size:Int)).toNat=j:=by
   rw [seqIndex_neg (by omega) h3] at h1
   rw [ak,<-hl]
   exact aK.inj h1
  exact PySem.W.ki_setBack ho (by omega) (by rw [ak,<-hl]; exact h3) (by omega) (by rw [hk]; exact ⟨_,I',q⟩)
theorem xW:ub X (.type "list") (fun xs H Q=>∃ p ys,xs=[.ref p]/\(SqL X.K H p ys\/SqT X.K H p ys)/\∀ l,H l=none->Q (.ref l) (upd H l (.lst ys))):=by
 intro pins s σ H xs us Q I r h
 obtain ⟨p,ys,rfl,hq,q⟩:=h
 obtain ⟨u,rfl,rx⟩:=yi r
 cases rx
 have fin:∀ (its:List Value),Vals ys its->ys.length<=sizeLine->∀ (h':Heap) (c':Nat),(∀ b o',s.heap.get? b=some o'->h'.get? b=some o') ->
   h'.get? s.heap.objs.size=some { cls:=.type "list",dict:=none,data:=.seq its.toArray c',slots:=#[] }->EP X pins σ Q (.ref s.heap.objs.size) { s with heap:=h' }:=fun its r' hz h' c' kp e=>
  ⟨.ref s.heap.objs.size,_,I.laid (t':=s.toks) kp (ao _) (show ObjOk X.prog X.w _ h' _ (.lst ys) from ⟨hz,its,c',r',e⟩),rfl,q _ (I.hok.fresh (ao _))⟩
 rcases hq with hq | hq
 ·obtain ⟨its,r',pl,hz⟩:=I.list hq
  have hlen:=r'.length
  obtain ⟨o,ho,hc,n,hd⟩:=pl.isList
  exact call_list_seq p (.inl rfl) ho hc hd (fun h' c' kp e=>fin its r' hz h' c' kp e) (by simp only [ak] <;> omega)
 ·obtain ⟨its,r',pl,hz⟩:=I.tuple hq
  have hlen:=r'.length
  obtain ⟨o,ho,hc,n,hd⟩:=pl
  exact call_list_seq p (.inr rfl) ho hc hd (fun h' c' kp e=>fin its r' hz h' c' kp e) (by simp only [ak] <;> omega)
theorem yy:ub X (.type "tuple") (fun xs H Q=>∃ p ys,xs=[.ref p]/\((SqL X.K H p ys/\∀ l,H l=none->Q (.ref l) (upd H l (.tup ys)))\/(SqT X.K H p ys/\Q (.ref p) H))):=by
 intro pins s σ H xs us Q I r h
 obtain ⟨p,ys,rfl,h⟩:=h
 obtain ⟨u,rfl,rx⟩:=yi r
 cases rx
 rcases h with ⟨hq,q⟩ | ⟨hq,q⟩
 ·obtain ⟨its,r',pl,hz⟩:=I.list hq
  have hlen:=r'.length
  refine call_tuple_list pl.isList (fun h' kp=>?_) (by simp only [ak] <;> omega)
  have I1:Inv X pins σ H { s with heap:=h' }:=I.kept (t':=s.toks) kp
  have I2:Inv X pins σ (upd H h'.objs.size (.tup ys)) { s with heap:=h'.push { cls:=.type "tuple",data:=.seq its.toArray } }:=
   I1.laid (t':=s.toks) (fun b o e=>aa _ e) (ao _) (show ObjOk X.prog X.w _ _ _ (.tup ys) from ⟨⟨hz,_,ah _ rfl,rfl⟩,its,r',fB _ _⟩)
  exact ⟨.ref h'.objs.size,_,I2,rfl,q _ (I1.hok.fresh (ao _))⟩
 ·obtain ⟨its,r',pl,hz⟩:=I.tuple hq
  exact call_tuple_same pl ⟨.ref p,H,I,rfl,q⟩
def tyV (K:Frag) (T:String) (x:V) (H:Hp):Prop:=match x with
 | .str _=>T = "str"
 | .int _=>T = "int"
 | .ref p=>(T = "list"/\∃ xs,SqL K H p xs)\/(T = "tuple"/\∃ o,K.lookup p=some o/\o.cls=.type "tuple"/\o.dict=none) \/
   (T = "dict"/\((∃ kvs,H p=some (.dK kvs))\/∃ kvs,H p=some (.dT kvs)))\/(T = "set"/\∃ S n,H p=some (.set S n))
 | _=>False
theorem qep {x:V} {v:Value} (I:Inv X pins σ H s) (r:RelV x v) (ty:tyV X.K T x H) :
  s.TypeIs v T/\∀ a,v=.ref a->∃ ob,s.heap.get? a=some ob/\ob.dict=none:=by
 cases x with
 | str z=>
  obtain ⟨t,rfl⟩:=r
  cases (show T = "str" from ty)
  exact ⟨typeIs_str s z t,fun _ e=>nomatch e⟩
 | int i=>
  obtain ⟨t,rfl⟩:=r
  cases (show T = "int" from ty)
  exact ⟨typeIs_int s i t,fun _ e=>nomatch e⟩
 | ref p=>
  cases r
  rcases ty with ⟨rfl,xs,hq⟩ | ⟨rfl,o,hk,hc,hd⟩ | ⟨rfl,hk⟩ | ⟨rfl,S,n,hk⟩
  ·obtain ⟨its,_,pl,_⟩:=I.list hq
   refine ⟨pl.isList.typeIs,fun a e=>?_⟩
   cases e
   obtain ⟨o,n,e,c,hd,_⟩:=pl
   exact ⟨o,e,hd⟩
  ·refine ⟨⟨o,I.kIn p o hk,hc⟩,fun a e=>?_⟩
   cases e
   exact ⟨o,I.kIn _ o hk,hd⟩
  ·have z:∃ o,s.heap.get? p=some o/\o.ExactDict:=by
    rcases hk with ⟨kvs,hk⟩ | ⟨kvs,hk⟩
    ·obtain ⟨_,_,_,_,o,_,_,e,ex,_⟩:=I.hok p _ hk
     exact ⟨o,e,ex⟩
    ·obtain ⟨_,_,_,_,o,_,_,e,ex,_⟩:=I.hok p _ hk
     exact ⟨o,e,ex⟩
   obtain ⟨o,e,ex⟩:=z
   refine ⟨⟨o,e,ex.1⟩,fun a e2=>?_⟩
   cases e2
   exact ⟨o,e,ex.2.1⟩
  ·obtain ⟨o,_,_,_,e,ex,_⟩:=I.hok p _ hk
   refine ⟨⟨o,e,ex.1⟩,fun a e2=>?_⟩
   cases e2
   exact ⟨o,e,ex.2.1⟩
 | _=>exact bS ty
def tBM (K:Frag) (T:String) (r:V->List V->Hp->VK->Prop) (to:TE) (t:TA):TE:=fun σ H Q=>to σ H fun x H1=>tyV K T x H1/\t σ H1 fun xs H2=>r x xs H2 Q
variable {o:Expr} {es:List Expr} {to:TE} {t:TA} {name:Str} {apos cpos:Pos} {id:String} {r:V->List V->Hp->VK->Prop}
theorem YI (pa:PlainAttrs T) (slot:Slot T name id) (hty:typeOf (.builtin id)=pure (.type "method_descriptor")) (hm:MtR X id r) (ho:PE X o to) (ha:PA X (e::es) t)
  (hbase:attributeBase o name X.env (eval o X.env)=eval o X.env:=by rfl)
  (hfew:((backTo cpos (starEach (e::es) X.env)).all (fun x=>!x.1)&&(backToKw cpos (keywordEach [] X.env)).all (fun x=>x.1.isSome)
   && decide ((e::es).length+([]:List Keyword).length+(if ([]:List Keyword).isEmpty then 0 else 1) < 30))=true:=by rfl)
  (hline:(apos.endLine == cpos.line)=true:=by rfl) (hs:starEach (e::es) X.env=(false,eval e X.env)::starEach es X.env:=by rfl) (hplain:(backTo cpos (starEach es X.env)).any (·.1)=false:=by rfl) :
  PE X (.Call (.Attribute o name apos) (e::es) [] cpos) (tBM X.K T r to t):=by
 refine ⟨?_⟩
 intro pins s σ H Q I h
 refine wpAny_Call_method_late hbase hfew hline rfl (thn (ho pins s σ H _ I h) fun v s1 ⟨x,H1,I1,r1,ty,q1⟩=>?_)
 obtain ⟨h1,h2⟩:=qep I1 r1 ty
 refine ⟨T,id,pa,slot,hty,h1,h2,?_⟩
 have hA:=ha cpos pins s1 σ H1 _ I1 q1
 rw [hs] at hA ⊢
 refine Calls.callWith_builtin (by show (false||(backTo cpos (starEach es X.env)).any (·.1))=false; rw [hplain] <;> rfl) (dL ?_)
 exact thn hA fun us s2 ⟨vs,H2,I2,r2,q2⟩=>hm pins s2 σ H2 x vs v us Q I2 r1 r2 q2
end
def MtM (X:Cx) (id:String) (r:V->List V->Hp->VK->Prop):Prop:=
 ∀ (pins:List (Addr×Obj)) (s:Shared) (σ:St) (H:Hp) (x:V) (xs:List V) (v:Value) (us:List Value) (Q:VK),Inv X pins σ H s->RelV x v->Vals xs us->r x xs H Q ->
  wpAny (model X.prog X.w) X.A (call (.builtin id) (v::us)) (EP X pins σ Q) X.xe s
theorem Vals.one:∀ {x:V} {us:List Value},Vals [x] us->∃ u,us=[u]/\RelV x u
 | _,_,.cons r .nil=>⟨_,rfl,r⟩
theorem Vals.two:∀ {x y:V} {us:List Value},Vals [x,y] us->∃ u v,us=[u,v]/\RelV x u/\RelV y v
 | _,_,_,.cons r (.cons q .nil)=>⟨_,_,rfl,r,q⟩
theorem Vals.zero:∀ {us:List Value},Vals [] us->us=[]
 | _,.nil=>rfl
theorem Vals.dropLast (h:Vals xs us):Vals xs.dropLast us.dropLast:=by
 induction h with
 | nil=>exact .nil
 | cons r t ih=>
  cases t with
  | nil=>exact .nil
  | cons q t'=>exact .cons r ih
theorem Vals.eraseIdx:∀ {xs:List V} {us:List Value} (i:Nat),Vals xs us->Vals (xs.eraseIdx i) (us.eraseIdx i)
 | _,_,_,.nil=>.nil
 | _,_,0,.cons _ t=>t
 | _,_,i+1,.cons r t=>.cons r (Vals.eraseIdx i t)
theorem Vals.reverse (h:Vals xs us):Vals xs.reverse us.reverse:=by
 induction h with
 | nil=>exact .nil
 | cons r t ih=>rw [dE,dE]; exact Vals.append ih (.cons r .nil)
theorem Vals.rep (h:Vals xs us):∀ k:Nat,Vals (aE k xs).flatten (aE k us).flatten
 | 0=>.nil
 | k+1=>by
  rw [bO,bO,bX,bX]
  exact Vals.append h (Vals.rep h k)
theorem Kz:∀ (l:List α) (i:Nat),(l.eraseIdx i).length<=l.length
 | [],_=>ao _
 | _::_,0=>d6 _
 | _::r,i+1=>Nat.succ_le_succ (Kz r i)
section
variable {l b:Addr} {ys zs:List V}
theorem Inv.lset {its its':List Value} {n:Nat} {f:Array Value->Array Value} {t':Nat} (I:Inv X pins σ H s) (hH:H l=some (.lst xs))
  (e:s.heap.get? l=some { cls:=.type "list",data:=.seq its.toArray n }) (hf:f its.toArray=its'.toArray) (hv:Vals ys its') (hz:ys.length<=sizeLine) :
  Inv X pins σ (upd H l (.lst ys)) { s with heap:=s.heap.update l (cE f),toks:=t' }:=by
 have q:=PySem.IsL.update e f
 rw [hf] at q
 refine I.write (x:=l) (e:=l) (by rw [hH]; exact trivial) (.inl rfl) (fun b' u hb hu=>(cf s.heap (cE f) (aX hb)).trans hu) ⟨_,q⟩ ?_
 exact ⟨hz,its',_,hv,q⟩
theorem Inv.lnew {its:List Value} {t':Nat} (I:Inv X pins σ H s) (hv:Vals ys its) (hz:ys.length<=sizeLine) :
  Inv X pins σ (upd H s.heap.objs.size (.lst ys)) { s with heap:=s.heap.push { cls:=.type "list",data:=.seq its.toArray },toks:=t' }:=
 I.laid (fun _ _ q=>aa _ q) (ao _) ⟨hz,its,0,hv,ah _ rfl⟩
theorem Inv.fresh (I:Inv X pins σ H s):H s.heap.objs.size=none:=I.hok.fresh (ao _)
theorem Inv.lstM (I:Inv X pins σ H s) (hH:H l=some (.lst xs)):xs.length<=sizeLine/\∃ (its:List Value) (n:Nat),Vals xs its/\xs.length=its.length/\s.heap.get? l=some { cls:=.type "list",data:=.seq its.toArray n }:=by
 obtain ⟨z,its,n,r,e⟩:=I.hok l _ hH
 exact ⟨z,its,n,r,r.length,e⟩
theorem qaF (h:n<=sizeLine):cF n=false:=by
 unfold cF
 exact decide_eq_false (by omega)
end
section
def Wg:V->List V->Hp->VK->Prop:=fun x vs H Q=>∃ l xs y,x=.ref l/\vs=[y]/\H l=some (.lst xs)/\xs.length < sizeLine/\Q .non (upd H l (.lst (xs++[y])))
theorem KA:MtM X "list.append" Wg:=by
 intro pins s σ H x vs v us Q I rx rv h
 obtain ⟨l,xs,y,rfl,rfl,hH,hz,q⟩:=h
 cases rx
 obtain ⟨u,rfl,ru⟩:=rv.one
 obtain ⟨z,its,n,r,hl,e⟩:=I.lstM hH
 refine call_meets F.slot_list_append ⟨_,e,rfl⟩ F.entry_list_append (F.args_list_append_2 _ _) (PySem.list_append l its.toArray n u (by rw [ak]; omega)) ⟨e,?_⟩
 refine ⟨.non,_,I.lset (its':=its++[u]) hH e (by simp) (r.append (.cons ru .nil)) ?_,rfl,q⟩
 rw [af,List.length_singleton]
 omega
def qcJ:V->List V->Hp->VK->Prop:=fun x vs H Q=>∃ l b xs zs,x=.ref l/\vs=[.ref b]/\H l=some (.lst xs)/\H b=some (.lst zs)/\xs.length+zs.length<=sizeLine/\Q .non (upd H l (.lst (xs++zs)))
theorem XR:MtM X "list.extend" qcJ:=by
 intro pins s σ H x vs v us Q I rx rv h
 obtain ⟨l,b,xs,zs,rfl,rfl,hH,hB,hz,q⟩:=h
 cases rx
 obtain ⟨u,rfl,ru⟩:=rv.one
 cases ru
 obtain ⟨z,its,n,r,hl,e⟩:=I.lstM hH
 obtain ⟨z2,its2,n2,r2,hl2,e2⟩:=I.lstM hB
 have hsz:its.toArray.size+its2.toArray.size<=sizeLine:=by rw [ak,ak]; omega
 have hlong:¬(!its.toArray.isEmpty&&cF (its.toArray.size+its2.toArray.size))=true:=by
  rw [qaF hsz,Bool.and_false]
  exact aY
 refine call_meets F.slot_list_extend ⟨_,e,rfl⟩ F.entry_list_extend (F.args_list_extend_2 _ _)
  (AutoSeq1.list_extend_list_list_0 l its.toArray n b its2.toArray n2 hlong (by rw [ak]; omega) (by omega)) ⟨e,e2,?_⟩
 refine ⟨.non,_,I.lset (its':=its++its2) hH e (by simp) (r.append r2) ?_,rfl,q⟩
 rw [af]
 omega
def qeq:V->List V->Hp->VK->Prop:=fun x vs H Q=>∃ l xs i k y,x=.ref l/\vs=[.int i]/\H l=some (.lst xs)/\-(2 ^ 63)<=i/\i < 2 ^ 63/\seqIndex? i xs.length=some k/\xs[k]?=some y/\Q y (upd H l (.lst (xs.eraseIdx k)))
theorem qaG:MtM X "list.pop" qeq:=by
 intro pins s σ H x vs v us Q I rx rv h
 obtain ⟨l,xs,i,k,y,rfl,rfl,hH,h1,h2,hk,hy,q⟩:=h
 cases rx
 obtain ⟨u,rfl,ru⟩:=rv.one
 obtain ⟨t,rfl⟩:=ru
 obtain ⟨z,its,n,r,hl,e⟩:=I.lstM hH
 obtain ⟨w,hw,rw'⟩:=r.get hy
 refine call_meets F.slot_list_pop ⟨_,e,rfl⟩ F.entry_list_pop (F.args_list_pop_2 _ _)
  (MeetsSeq.list_pop_at l its.toArray n i t k w (fitsIndex_both h1 h2) (by rw [ak,<-hl]; exact hk) (by rw [<-aU]; exact hw) (by rw [ak]; omega)) ⟨e,?_⟩
 refine ⟨y,_,I.lset (its':=its.eraseIdx k) hH e ?_ (r.eraseIdx k) ?_,rw',q⟩
 ·show its.toArray.eraseIdxIfInBounds k=(its.eraseIdx k).toArray
  rw [List.eraseIdxIfInBounds_toArray]
 ·have:=Kz xs k
  omega
end
end L2
namespace Att
open PySem PySem.W PySem.Calls PyProof.Rows
theorem gb {P:Params} {h:Heap}:∀ (ns:List Int) (vs:List Value),WellAll P h vs (ns.map WData.int)->IntsAre vs ns:=by
 intro ns
 induction ns with
 | nil=>
  intro vs w
  rw [bK] at w
  cases w
  exact .nil
 | cons n ns ih=>
  intro vs w
  rw [aF] at w
  cases w with
  | cons a b=>
   cases a
   exact .cons _ _ (ih _ b)
theorem XS {l:OpenLaw} {n:Nat} (hn:l.most=some n) {P:Params} {h:Heap} {args:List WData} {vals:List Value}
  (hpre:l.row.toRowW.claim.pre args=true) (hwl:WellAll P h vals args) :
  ∃ a vs ns,vals=[bN a]/\args=[WData.list (ns.map WData.int)]/\h.get? a=some { cls:=.type "list",data:=.seq vs.toArray }/\IntsAre vs ns/\ns.length<=n:=by
 have hsh:WShape.hasAll [] args [.list .int]=true:=(pre_splitW hpre).1
 have hc:l.pre.holds [] { args:=args }=true:=(pre_splitW hpre).2
 obtain ⟨d,r,rfl,h1,h2⟩:=hasAllW_cons hsh
 obtain rfl:=hasAllW_nil h2
 obtain ⟨xs,rfl,h3⟩:=hasW_list h1
 obtain ⟨ns,rfl⟩:=items_int h3
 have hlen:ns.length<=n:=by
  unfold OpenLaw.pre at hc
  have h4:(WTm.not (.lt (.lit (.int (n:Int))) (.len (.arg 0)))).holds [] { args:=[.list (ns.map .int)] }=true:=by
   have h4:=(holds_andW hc).1
   rw [hn] at h4
   exact h4
  have h5:=condW_of h4 (w_not (w_lt w_lit (w_len_list (w_arg rfl))))
  rw [aB] at h5
  refine Nat.le_of_not_lt fun q=>?_
  have q':(n:Int) < ((ns.length:Nat):Int):=by omega
  first
   | (rw [decide_eq_true q'] at h5; exact absurd h5 (by decide))
   | (simp at h5; omega)
 cases hwl with
 | cons w1 w2=>
  cases w2
  cases w1 with
  | list ho hall=>exact ⟨_,_,ns,rfl,rfl,ho,gb ns _ hall,hlen⟩
theorem XT (l:OpenLaw) (args:List WData):l.row.toRowW.claim.post args (.bool true) args=true:=
 postW_of (r:=l.row.toRowW) (X:=(true == true))
  (show WShape.has [] (.bool true) .bool=true by first | rfl | decide | simp [WShape.has,WShape.arms,WShape.armsAll])
  (show (WTm.eq .res (.lit (.bool true))).value [] { args:=args,res:=some (.bool true),after:=args }=some (.bool (true == true)) from w_eq_bool (w_res rfl) w_lit) rfl
theorem attach_call {l:OpenLaw} {n:Nat} {q:Program} {loose:List Str} {XP:(Str->Option Value)->Heap->Prop} {YP:World->Heap->Prop} {d:DefRec}
  (hn:l.most=some n) (hdf:d.params.defaults=[])
  (call:∀ (w:World) (s₀ s₁:Shared) (mg mb:Str->Option Value) (fa:Addr) (o:Obj) (pm cd doc:Value) (a:Addr) (vs:List Value) (ns:List Int),
   Ground q loose [] XP w s₀ mg mb s₁.heap->YP w s₁.heap ->
   s₁.heap.get? fa=some o->o.data=.func (docDef d.name d.params d.body d.scope pm cd doc)->s₁.heap.CodeRec cd d.name->mg d.name=some (.ref fa) ->
   s₁.heap.get? a=some { cls:=.type "list",data:=.seq vs.toArray }->IntsAre vs ns->ns.length<=n->s₁.gens=#[] ->
   codeAny (model l.prog w) callerA (.call (.ref fa) ⟨[.ref a],[]⟩) (fun r s'=>r=.ok (.ret (.bool true))/\OldK s₁.heap s'.heap/\s'.os=s₁.os/\AllBare s'.gens) s₁) :
  WalkO q loose XP YP l.row.toRowW d [] (fun f vs=>fF f vs):=by
 intro w s₀ s₁ mg mb G Y fa o pm cd doc dV kV ho hd hcd hD hmg hg args vals as hpre hlay hrd hwl hlo
 obtain rfl:dV=.none:=Dflts.none hD hdf
 obtain rfl:kV=.none:=Dflts.noKw hD
 obtain ⟨a,vs,ns,rfl,rfl,hobj,hints,hlen⟩:=XS hn hpre hwl
 refine enter_call (codeAny_mono (call w s₀ s₁ mg mb fa o pm cd doc a vs ns G Y ho (fd_plain hd) hcd hmg hobj hints hlen hg) fun r s' hq=>?_)
 obtain ⟨rfl,h2,h3,h4⟩:=hq
 exact ⟨.inl ⟨.bool true,.bool true,[],rfl,fun _=>rfl,.bool true,XT l _,fun _=>⟨d7,fun _ hm=>(nomatch hm)⟩⟩,h2,h3,h4⟩
end Att
namespace L2
open PySem PySem.Spec PyProof.Rows
theorem KB:∀ {vs:List Value} {ns:List Int},IntsAre vs ns->Vals (ns.map V.int) vs
 | _,_,.nil=>.nil
 | _,_,.cons n t h=>.cons ⟨t,rfl⟩ (KB h)
def qgu (H:Hp):Prop:=∀ b,H b=none\/∃ o xs,H b=some (.frz o (.lst xs))
theorem qaH {P:Program} {w:World} {K:Frag} {mg mb:Str->Option Value} {CX:CXT} {k:Nat} {fa a:Addr} {fd:FuncData} {x:Str} {sp:Sp} {s₁:Shared} {vs:List Value} {ns:List Int}
  (KX:K.In s₁.heap) (hns:s₁.heap.Ns mainGlobals mg) (hb:s₁.heap.Ns builtinsNs mb) (hbb:∀ x:Str,x ≠ "__name__"->mb x=bootBuiltins x) (hlim:s₁.heap.NoLimit) (hg:s₁.gens=#[])
  (ha:s₁.heap.get? a=some { cls:=.type "list",data:=.seq vs.toArray }) (hi:IntsAre vs ns) (hl:ns.length<=sizeLine) (hr:Room k callerA)
  (F:∀ base:Heap,K.In base->base.Ns mainGlobals mg->FnOk P w K mg base CX k fa fd [x] sp) (hbind:∀ (s:Shared) (u:Value),BindsTo s fd ⟨[u],[]⟩ [(x,u)])
  (hsp:∀ H:Hp,qgu H->SqL K H a (ns.map V.int)->sp [.ref a] H (fun v _=>v=.bl true) fun _ _ _=>False)
  (hCX:∀ H e s',CX [] H s₁ (fun _ _ _=>False) e s'->False) :
  codeAny (model P w) callerA (.call (.ref fa) ⟨[.ref a],[]⟩) (fun r s'=>r=.ok (.ret (.bool true))/\OldK s₁.heap s'.heap/\s'.os=s₁.os/\AllBare s'.gens) s₁:=by
 have rv:=KB hi
 have lenV:=hi.length
 have core:∀ H:Hp,qgu H->SqL K H a (ns.map V.int)->HOk P w H s₁.heap->(∀ b,H b≠none->b=a)->(H a≠none->K.lookup a=none) ->
   codeAny (model P w) callerA (.call (.ref fa) ⟨[.ref a],[]⟩) (fun r s'=>r=.ok (.ret (.bool true))/\OldK s₁.heap s'.heap/\s'.os=s₁.os/\AllBare s'.gens) s₁:=by
  intro H hO hS hok hA hK
  have base_of:∀ {b:Addr} {o:Obj},s₁.heap.get? b=some o->H b=none->(qas s₁.heap H).get? b=some o:=fun e n=>qat e n
  have noA:∀ {b:Addr} {o:Obj} {es:Array DictEntry} {ep:Nat},s₁.heap.get? b=some o->o.data=.dict es ep->H b=none:=fun {b o es ep} e d=>by
   cases q:H b with
   | none=>rfl
   | some u=>
    have e':b=a:=hA b (by rw [q]; simp)
    subst e'
    rw [ha] at e; cases e
    have d':Data.seq vs.toArray _=Data.dict es ep:=d
    cases d'
  have nsK:∀ {b:Addr} {m:Str->Option Value},s₁.heap.Ns b m->(qas s₁.heap H).Ns b m:=fun {b m} ⟨o,es,ep,e,d,r⟩=>⟨o,es,ep,base_of e (noA e d),d,r⟩
  have hKb:K.In (qas s₁.heap H):=fun b o e=>base_of (KX b o e) (by
   cases q:H b with
   | none=>rfl
   | some u=>
    have e':b=a:=hA b (by rw [q]; simp)
    subst e'
    rw [hK (by rw [q]; simp)] at e; cases e)
  have hM:Mod K mg (qas s₁.heap H):=⟨hKb,nsK hns,⟨mb,nsK hb,hbb⟩,let ⟨mc,h1,h2⟩:=hlim; ⟨mc,nsK h1,h2⟩⟩
  have e0:Env0 P w K mg (qas s₁.heap H) callerA [] s₁ H:=⟨rfl,hM,fun b o e=>qcr e,dQ (XA _ _),trivial,fun b hb=>absurd (show b∈([]:List Addr) from hb) (by simp),hok,.of_eq hg⟩
  refine codeAny_mono ((F _ hKb (nsK hns)).run callerA [] s₁ H ⟨[.ref a],[]⟩ [.ref a] [.ref a] _ _ hr e0 (hbind s₁ (.ref a)) (.cons rfl .nil) (hsp H hO hS)) fun r s' h=>?_
  cases r with
  | error e=>exact (hCX H e s' h).elim
  | ok fl=>
   cases fl with
   | next=>exact bS h
   | brk=>exact bS h
   | cont=>exact bS h
   | ret u=>
    obtain ⟨v,H',os,bare,un,hok',r',q⟩:=h
    have q':v=.bl true:=q
    subst q'
    obtain rfl:u=aP true:=r'
    refine ⟨rfl,OldK.of_keep fun b o e=>?_,os,bare⟩
    cases q:H b with
    | none=>exact un.keep b o e q (by intro z; exact absurd (show b∈([]:List Addr) from z) (by simp)) (by simp)
    | some u=>
     rcases hO b with z | ⟨ob,xs,z⟩
     ·rw [q] at z; cases z
     ·have z2:=un.frzs b ob _ z
      obtain ⟨e1,_⟩:=hok b _ z
      obtain ⟨e2,_⟩:=hok' b _ z2
      rw [e] at e1; cases e1
      exact e2
 cases hk:K.lookup a with
 | some o=>
  have e:=KX a o hk
  rw [ha] at e
  cases e
  refine core (fun _=>none) (fun _=>.inl rfl) (.inr ⟨_,vs.toArray,_,hk,rfl,rfl,rfl,by rw [ak,lenV]; exact hl,by simpa using rv⟩) (fun b u z=>by have z':(none:Option HO)=some u:=z; cases z') (fun b z=>absurd rfl z) fun z=>absurd rfl z
 | none=>
  refine core (fun b=>if b=a then some (.frz { cls:=.type "list",data:=.seq vs.toArray } (.lst (ns.map V.int))) else none) (fun b=>?_) (.inl (.inr ⟨{ cls:=.type "list",data:=.seq vs.toArray },if_pos rfl⟩)) (fun b u z=>?_) (fun b z=>?_) fun _=>hk
  ·by_cases hb:b=a
   ·exact .inr ⟨_,_,if_pos hb⟩
   ·exact .inl (if_neg hb)
  ·by_cases hb:b=a
   ·have z':=(if_pos hb).symm.trans z
    cases z'
    subst hb
    exact ⟨ha,by rw [aB]; exact hl,vs,_,rv,ha⟩
   ·have z':=(if_neg hb).symm.trans z
    cases z'
  ·by_cases hb:b=a
   ·exact hb
   ·exact absurd (if_neg hb) z
theorem qcK {l:eX} {n k:Nat} {q:Program} {loose:List Str} {XP:(Str->Option Value)->Heap->Prop} {YP:World->Heap->Prop} {d:DefRec} {K:Params->Frag} {CX:World->CXT} {sp:World->Sp} {x:Str}
  (hn:l.most=some n) (hn2:n<=sizeLine) (hdf:d.params.defaults=[]) (hr:Room k callerA)
  (hY:∀ (w:World) (h:Heap),YP w h->(K w.params).In h)
  (F:∀ (w:World) (mg:Str->Option Value) (fa:Addr) (h:Heap),(K w.params).In h->h.Ns mainGlobals mg->mg d.name=some (.ref fa) ->
   ∃ fd:FuncData,(∀ (s:Shared) (u:Value),BindsTo s fd ⟨[u],[]⟩ [(x,u)]) /\
    ∀ base:Heap,(K w.params).In base->base.Ns mainGlobals mg->FnOk l.prog w (K w.params) mg base (CX w) k fa fd [x] (sp w))
  (hsp:∀ (w:World) (H:Hp) (a:Addr) (ns:List Int),ns.length<=n->qgu H->SqL (K w.params) H a (ns.map V.int)->sp w [.ref a] H (fun v _=>v=.bl true) fun _ _ _=>False)
  (hCX:∀ (w:World) (H:Hp) (s:Shared) (e:Value) (s':Shared),CX w [] H s (fun _ _ _=>False) e s'->False) :
  PySem.W.WalkO q loose XP YP l.row.toRowW d [] (fun f vs=>fF f vs):=by
 refine Att.attach_call hn hdf fun w s₀ s₁ mg mb fa o pm cd doc a vs ns G Y ho hd hcd hmg hobj hints hlen hg=>?_
 have KX:=hY w _ Y
 obtain ⟨fd,hb,hF⟩:=F w mg fa _ KX G.T.g hmg
 exact qaH KX G.T.g G.T.b G.T.builtins G.T.nolimit hg hobj hints (bU hlen hn2) hr hF hb (fun H hO hS=>hsp w H a ns hlen hO hS) fun H e s'=>hCX w H s₁ e s'
noncomputable def ue (s:Stmt):Arguments:=match s with
 | .FunctionDef _ a _ _ _ _ _ _ _ _=>a
 | _=>{ posonlyargs:=[],args:=[],vararg:=none,kwonlyargs:=[],kw_defaults:=[],kwarg:=none,defaults:=[] }
noncomputable def kJ (s:Stmt):List Stmt:=match s with
 | .FunctionDef _ _ b _ _ _ _ _ _ _=>b
 | _=>[]
noncomputable def qe (s:Stmt):Scope:=match s with
 | .FunctionDef _ _ _ _ _ _ sc _ _ _=>sc
 | _=>{ kind:=.function,names:=[],isGenerator:=false,isCoroutine:=false }
structure Fun (K:Frag) (x qual:Str) (st:Stmt) (f:Addr) (fd:FuncData):Prop where
 ex:∃ (oc:Value) (od:Option Addr) (kV doc pm:Value) (an:Option Addr) (cdv ct:Value) (osl:Array (Option Value)),
  fd=bJ x qual (ue st) (kJ st) (qe st) .none kV doc pm an cdv ct/\K.lookup f=some ⟨oc,od,.func fd,osl⟩/\codeIn K cdv qual=true
 kp:keepIn K (.ref f)=true
variable {P:Program} {w:World} {K:Frag} {x qual:Str} {st:Stmt} {f:Addr}
section
variable {mg:Str->Option Value} {base:Heap}
theorem Fun.binds {fd:FuncData} {ps:List Str} (F:Fun K x qual st f fd)
  (h:∀ (kV doc pm:Value) (an:Option Addr) (cdv ct:Value) (us:List Value),us.length=ps.length->bindArgs (bJ x qual (ue st) (kJ st) (qe st) .none kV doc pm an cdv ct) ⟨us,[]⟩=pure (ps.zip us)):Binds K fd ps []:=by
 obtain ⟨oc,od,kV,doc,pm,an,cdv,ct,osl,rfl,lk,hcd⟩:=F.ex
 exact .all (h kV doc pm an cdv ct)
theorem XU {oc:Value} {od an:Option Addr} {osl:Array (Option Value)} {kV doc pm cdv ct:Value} (l:K.lookup f=some ⟨oc,od,.func (bJ x qual (ue st) (kJ st) (qe st) .none kV doc pm an cdv ct),osl⟩)
  (c:codeIn K cdv qual=true) (k:keepIn K (.ref f)=true):Fun K x qual st f (bJ x qual (ue st) (kJ st) (qe st) .none kV doc pm an cdv ct):=⟨⟨oc,od,kV,doc,pm,an,cdv,ct,osl,rfl,l,c⟩,k⟩
end
variable {X:Cx}
section
theorem pv (i:Nat) {pos:Pos} (hN:X.N[i]?=some x:=by rfl) (hv:Vis X.env.scope x:=by first | exact ap rfl | exact bC (ap rfl) | exact bC (bC rfl)) (hd:(x == ("__debug__":Str))=false:=by decide)
  (hcd:(x == ("__classdict__":Str))=false:=by decide):PE X (.Name x pos) (qf8 i):=yb hN hv hd hcd
end
def Same (H H':Hp):Prop:=∀ b o,H b=some o->H' b=some o
theorem Same.refl (H:Hp):Same H H:=fun _ _ h=>h
variable {H:Hp}
theorem Same.trans {H1 H2:Hp} (a:Same H H1) (b:Same H1 H2):Same H H2:=fun c o h=>b c o (a c o h)
variable {H':Hp}
theorem Same.free (e:Same H H') {l:Addr} (h:H' l=Option.none):H l=Option.none:=by
 cases q:H l with
 | none=>rfl
 | some o=>
  rw [e l o q] at h
  cases h
variable {a:Addr}
theorem Same.seq {xs:List V} (e:Same H H') (h:SqL K H a xs):SqL K H' a xs:=by
 rcases h with (h | ⟨o,h⟩) | h
 ·exact .inl (.inl (e _ _ h))
 ·exact .inl (.inr ⟨o,e _ _ h⟩)
 ·exact .inr h
variable {o:Option V} {u:Value} {d y:V}
section
variable {κ:Type} [DecidableEq κ]
noncomputable def VU (kvs:List (κ×V)) (k:κ):Option V:=(kvs.find? fun kv=>decide (kv.1=k)).map (·.2)
noncomputable def Qo (kvs:List (κ×V)) (k:κ) (v:V):List (κ×V):=
 if (kvs.any fun kv=>decide (kv.1=k))=true then kvs.map (fun kv=>if kv.1=k then (kv.1,v) else kv) else kvs++[(k,v)]
theorem zD {p:κ×V} {r:List (κ×V)} {k:κ} (e:p.1=k):VU (p::r) k=some p.2:=by simp [VU,cY,e]
theorem yz {p:κ×V} {r:List (κ×V)} {k:κ} (e:¬p.1=k):VU (p::r) k=VU r k:=by simp [VU,cY,e]
theorem Jg (k:κ):∀ kvs:List (κ×V),(kvs.any fun kv=>decide (kv.1=k))=(VU kvs k).isSome
 | []=>rfl
 | p::r=>by
  rw [cG]
  by_cases e:p.1=k
  ·simp only [zD e,decide_eq_true e,Bool.true_or,Option.isSome_some]
  ·rw [yz e,decide_eq_false e,Bool.false_or]; exact Jg k r
theorem yj (kvs:List (κ×V)) (k:κ) (v:V):(Qo kvs k v).length<=kvs.length+1:=by
 unfold Qo
 split
 ·rw [aB]; omega
 ·rw [af,aq,bq]; omega
theorem RelO.isSome_eq {u:Option Value} (r:RelO o u):o.isSome=u.isSome:=by
 cases o with
 | none=>cases u with
  | none=>rfl
  | some _=>exact (show False from r).elim
 | some _=>cases u with
  | none=>exact (show False from r).elim
  | some _=>rfl
theorem RelO.getD {u:Option Value} {d':Value} (r:RelO o u) (rd:RelV d d'):RelV (o.getD d) (u.getD d'):=by
 cases o with
 | none=>cases u with
  | none=>exact rd
  | some _=>exact (show False from r).elim
 | some _=>cases u with
  | none=>exact (show False from r).elim
  | some _=>exact r
theorem KV.val {kvs:List (κ×V)} {vs:List (κ×Value)} (r:KV kvs vs) (k:κ):RelO (VU kvs k) (valueAt vs k):=by
 unfold KV at r
 induction r with
 | nil=>exact c9
 | @cons p q ps qs h t ih=>
  obtain ⟨h1,h2⟩:=h
  by_cases e:p.1=k
  ·have e':q.1=k:=h1.symm.trans e
   have b:valueAt (q::qs) k=some q.2:=by simp [valueAt,cY,e']
   rw [zD e,b]; exact h2
  ·have e':¬q.1=k:=fun z=>e (h1.trans z)
   have b:valueAt (q::qs) k=valueAt qs k:=by simp [valueAt,cY,e']
   rw [yz e,b]; exact ih
theorem KV.any {kvs:List (κ×V)} {vs:List (κ×Value)} (r:KV kvs vs) (k:κ):(kvs.any fun kv=>decide (kv.1=k))=vs.any fun kv=>decide (kv.1=k):=by
 unfold KV at r
 induction r with
 | nil=>rfl
 | cons h t ih=>rw [cG,cG,ih,h.1]
theorem KV.repl {kvs:List (κ×V)} {vs:List (κ×Value)} (r:KV kvs vs) (k:κ) (ry:RelV y u) :
  KV (kvs.map fun kv=>if kv.1=k then (kv.1,y) else kv) (vs.map fun kv=>if kv.1=k then (kv.1,u) else kv):=by
 unfold KV at r ⊢
 induction r with
 | nil=>exact .nil
 | @cons p q ps qs h t ih=>
  rw [aF,aF]
  refine .cons ?_ ih
  obtain ⟨h1,h2⟩:=h
  by_cases e:p.1=k
  ·rw [if_pos e,if_pos (h1.symm.trans e)]; exact ⟨h1,ry⟩
  ·rw [if_neg e,if_neg (fun z=>e (h1.trans z))]; exact ⟨h1,h2⟩
theorem KV.put {kvs:List (κ×V)} {vs:List (κ×Value)} (r:KV kvs vs) (k:κ) (ry:RelV y u):KV (Qo kvs k y) (stored vs k u):=by
 unfold Qo stored
 rw [r.any k]
 by_cases e:(vs.any fun kv=>decide (kv.1=k))=true
 ·rw [if_pos e,if_pos e]; exact r.repl k ry
 ·rw [if_neg e,if_neg e]; exact Paired.snoc r ⟨rfl,ry⟩
theorem KV.keys {kvs:List (κ×V)} {vs:List (κ×Value)} (r:KV kvs vs):kvs.map (·.1)=vs.map (·.1):=by
 unfold KV at r
 induction r with
 | nil=>rfl
 | cons h t ih=>rw [aF,aF,ih,h.1]
theorem KV.length {kvs:List (κ×V)} {vs:List (κ×Value)} (r:KV kvs vs):kvs.length=vs.length:=ej r
end
theorem YJ {k:Key} (r:RelV (kV k) u):(jg P w).is k u=true:=by
 cases k with
 | inl i=>obtain ⟨t,e⟩:=(show ∃ t,u=fj i t from r); subst e; exact Wa P w i t
 | inr x=>obtain ⟨t,e⟩:=(show ∃ t,u=dS x t from r); subst e; exact Wb P w x t
theorem KC:∀ {ks:List Key} {us:List Value},Vals (ks.map kV) us->ItemsAre (jg P w) ks us
 | [],_,r=>by rw [bK] at r; cases r; exact .nil
 | k::ks,_,r=>by
  rw [aF] at r
  cases r with
  | cons h t=>exact .cons (YJ h) (KC t)
abbrev KT (H:Hp):List (List Key×V)->List (List Key×Addr×Value)->Prop:=Paired fun p q=>p.1=q.1/\H q.2.1=some (.tup (p.1.map kV))/\RelV p.2 q.2.2
variable {xs:List (List Key×Addr×Value)} {kvs:List (List Key×V)}
theorem KT.val (r:KT H kvs xs) (k:List Key):RelO (VU kvs k) ((atKey xs k).map (·.2)):=by
 induction r with
 | nil=>exact c9
 | @cons p q ps qs h t ih=>
  obtain ⟨h1,_,h2⟩:=h
  by_cases e:p.1=k
  ·have e':q.1=k:=h1.symm.trans e
   have b:atKey (q::qs) k=some q.2:=by simp [atKey,cY,e']
   rw [zD e,b]; exact h2
  ·have e':¬q.1=k:=fun z=>e (h1.trans z)
   have b:atKey (q::qs) k=atKey qs k:=by simp [atKey,cY,e']
   rw [yz e,b]; exact ih
theorem KT.repl (r:KT H kvs xs) (k:List Key) (ry:RelV y u) :
  KT H (kvs.map fun kv=>if kv.1=k then (kv.1,y) else kv) (xs.map (putAt k u)):=by
 induction r with
 | nil=>exact .nil
 | @cons p q ps qs h t ih=>
  rw [aF,aF]
  refine .cons ?_ ih
  obtain ⟨h1,h2,h3⟩:=h
  unfold putAt
  by_cases e:p.1=k
  ·rw [if_pos e,if_pos (h1.symm.trans e)]; exact ⟨h1,h2,ry⟩
  ·rw [if_neg e,if_neg (fun z=>e (h1.trans z))]; exact ⟨h1,h2,h3⟩
variable {b:Addr}
theorem KT.put (r:KT H kvs xs) (k:List Key) (hb:H b=some (.tup (k.map kV))) (ry:RelV y u) :
  KT H (Qo kvs k y) (storedH xs k b u):=by
 have e:(kvs.any fun kv=>decide (kv.1=k))=(atKey xs k).isSome:=by
  rw [Jg,(r.val k).isSome_eq,d8]
 unfold Qo storedH
 rw [e]
 by_cases q:(atKey xs k).isSome=true
 ·rw [if_pos q,if_pos q]; exact r.repl k ry
 ·rw [if_neg q,if_neg q]; exact Paired.snoc r ⟨rfl,hb,ry⟩
theorem KT.keeps (r:KT H kvs xs) (ht:∀ b ys,H b=some (.tup ys)->H' b=some (.tup ys)):KT H' kvs xs:=
 Paired.mapP r fun _ _ z=>⟨z.1,ht _ _ z.2.1,z.2.2⟩
section
variable {h:Heap}
theorem qer {u:HO} (ok:HOk P w H h) (e:Rd H a u):ObjOk P w H h a u:=e.ok ok
theorem KD {kvs:List (Key×V)} (ok:HOk P w H h) (e:Rd H a (.dK kvs)):kvs.length<=sizeLine/\(a == sysModules)=false/\∃ vs,KV kvs vs/\h.DictOf (jg P w) a vs:=
 show ObjOk P w H h a (.dK kvs) from qer ok e
theorem qgv {kvs:List (Key×V)} (ok:HOk P w H h) (e:H a=some (.dK kvs)):kvs.length<=sizeLine/\(a == sysModules)=false/\∃ vs,KV kvs vs/\h.DictOf (jg P w) a vs:=KD ok (.inl e)
theorem xX {ks:List Key} (ok:HOk P w H h) (e:H a=some (.tup (ks.map kV))):(tupleKind (jg P w)).is h ks a:=by
 obtain ⟨_,its,r,o,h1,h2,n,h3⟩:=(show ObjOk P w H h a (.tup (ks.map kV)) from ok a _ e)
 exact ⟨o,its.toArray,n,h1,h2,h3,by simpa using KC r⟩
theorem Wh (ok:HOk P w H h) (e:Rd H a (.dT kvs)):kvs.length<=sizeLine/\(a == sysModules)=false /\
  ∃ xs,KT H kvs xs/\h.DictOfH (tupleKind (jg P w)) a xs:=by
 obtain ⟨z,y,xs,r,o,es,ep,h1,h2,h3,h4,h5⟩:=(show ObjOk P w H h a (.dT kvs) from qer ok e)
 refine ⟨z,y,xs,r,o,es,ep,h1,h2,h3,h4,fun x hx=>?_,h5⟩
 have all:∀ {l:List (List Key×V)} {m:List (List Key×Addr×Value)},KT H l m->∀ x∈m,(tupleKind (jg P w)).is h x.1 x.2.1:=by
  intro l m q
  induction q with
  | nil=>intro x hx; exact nomatch hx
  | @cons p q ps qs hq t ih=>
   intro x hx
   rcases ac.mp hx with e | hx
   ·subst e
    exact xX ok (by rw [<-hq.1]; exact hq.2.1)
   ·exact ih x hx
 exact all r x hx
theorem qgw (ok:HOk P w H h) (e:H a=some (.dT kvs)):kvs.length<=sizeLine/\(a == sysModules)=false /\
  ∃ xs,KT H kvs xs/\h.DictOfH (tupleKind (jg P w)) a xs:=Wh ok (.inl e)
end
def DGet (H:Hp) (a:Addr) (y:V) (r:Option V):Prop:=
 (∃ kvs k,Rd H a (.dK kvs)/\y=kV k/\r=VU kvs k)\/∃ kvs k b,Rd H a (.dT kvs)/\y=.ref b/\H b=some (.tup (k.map kV))/\r=VU kvs k
def DPut (H:Hp) (a:Addr) (y v:V) (H':Hp):Prop:=
 (∃ kvs k,H a=some (.dK kvs)/\y=kV k/\kvs.length < sizeLine/\H'=upd H a (.dK (Qo kvs k v))) \/
 ∃ kvs k b,H a=some (.dT kvs)/\y=.ref b/\H b=some (.tup (k.map kV))/\kvs.length < sizeLine/\H'=upd H a (.dT (Qo kvs k v))
theorem DGet.k {kvs:List (Key×V)} {k:Key} (e:H a=some (.dK kvs)):DGet H a (kV k) (VU kvs k):=.inl ⟨kvs,k,.inl e,rfl,rfl⟩
theorem DGet.t {k:List Key} (e:H a=some (.dT kvs)) (eb:H b=some (.tup (k.map kV))):DGet H a (.ref b) (VU kvs k):=.inr ⟨kvs,k,b,.inl e,rfl,eb,rfl⟩
variable {v:V}
theorem DPut.k {kvs:List (Key×V)} {k:Key} (e:H a=some (.dK kvs)) (hl:kvs.length < sizeLine):DPut H a (kV k) v (upd H a (.dK (Qo kvs k v))):=.inl ⟨kvs,k,e,rfl,hl,rfl⟩
theorem DPut.t {k:List Key} {v:V} (e:H a=some (.dT kvs)) (eb:H b=some (.tup (k.map kV))) (hl:kvs.length < sizeLine) :
  DPut H a (.ref b) v (upd H a (.dT (Qo kvs k v))):=.inr ⟨kvs,k,b,e,rfl,eb,hl,rfl⟩
variable {pins:List (Addr×Obj)} {σ:St} {s:Shared} {A:Around} {E Q:Value->Shared->Prop} {h':Heap}
section
variable {r:Value}
theorem Inv.big (I:Inv X pins σ H s):sysModules < s.heap.objs.size:=by
 have h:mainGlobals < s.heap.objs.size:=(I.mod.glob.keeps I.bk).lt
 exact dF (by decide) h
theorem XV (hu:A.units+1 < cLine) (I:Inv X pins σ H s) (g:DGet H a y (some v)) (ry:RelV y u) (h:∀ w' s',Inv X pins σ H s'->RelV v w'->Q w' s') :
  wpAny (model X.prog X.w) A (getItem (.ref a) u) Q E s:=by
 rcases g with ⟨kvs,k,e,ey,l⟩ | ⟨kvs,k,b,e,ey,eb,l⟩
 ·subst ey
  obtain ⟨z,hd,vs,rel,dd⟩:=KD I.hok e
  obtain ⟨w',hw,rw'⟩:=RelO.some_of (v:=v) (o:=valueAt vs k) (by rw [l]; exact rel.val k)
  exact wpAny_getItem_of (YJ ry) dd.mapOf hw (h w' _ (I.tok _) rw')
 ·subst ey
  cases (show u=bN b from ry)
  obtain ⟨z,hd,xs,rel,dd⟩:=Wh I.hok e
  obtain ⟨w',hw,rw'⟩:=RelO.some_of (v:=v) (o:=(atKey xs k).map (·.2)) (by rw [l]; exact rel.val k)
  obtain ⟨p,hp,hp2⟩:=aR.mp hw
  refine wpAny_getItem_heap (tupleKind_room_in1 hu) (xX I.hok eb) dd hp ?_
  rw [hp2]
  exact h w' _ (I.tok _) rw'
theorem qhK (hu:A.units+1 < cLine) (I:Inv X pins σ H s) (g:DGet H a y o) (ry:RelV y u) (h:∀ s',Inv X pins σ H s'->Q (.bool o.isSome) s') :
  wpAny (model X.prog X.w) A (compareOp .In u (.ref a)) Q E s:=by
 rcases g with ⟨kvs,k,e,ey,l⟩ | ⟨kvs,k,b,e,ey,eb,l⟩
 ·subst ey
  obtain ⟨z,hd,vs,rel,dd⟩:=KD I.hok e
  refine wpAny_in_of (YJ ry) hd dd.mapOf ?_
  rw [<-(rel.val k).isSome_eq,<-l]
  exact h _ (I.tok _)
 ·subst ey
  cases (show u=bN b from ry)
  obtain ⟨z,hd,xs,rel,dd⟩:=Wh I.hok e
  refine wpAny_in_heap (tupleKind_room_in1 hu) (xX I.hok eb) hd dd ?_
  have q:=(rel.val k).isSome_eq
  rw [d8] at q
  rw [<-q,<-l]
  exact h _ (I.tok _)
theorem qcL (hu:A.units+1 < cLine) (I:Inv X pins σ H s) (g:DGet H a y o) (ry:RelV y u) (h:∀ s',Inv X pins σ H s'->Q (.bool (!o.isSome)) s') :
  wpAny (model X.prog X.w) A (compareOp .NotIn u (.ref a)) Q E s:=by
 rcases g with ⟨kvs,k,e,ey,l⟩ | ⟨kvs,k,b,e,ey,eb,l⟩
 ·subst ey
  obtain ⟨z,hd,vs,rel,dd⟩:=KD I.hok e
  refine wpAny_notIn_of (YJ ry) hd dd.mapOf ?_
  rw [<-(rel.val k).isSome_eq,<-l]
  exact h _ (I.tok _)
 ·subst ey
  cases (show u=bN b from ry)
  obtain ⟨z,hd,xs,rel,dd⟩:=Wh I.hok e
  refine wpAny_notIn_heap (tupleKind_room_in1 hu) (xX I.hok eb) hd dd ?_
  have q:=(rel.val k).isSome_eq
  rw [d8] at q
  rw [<-q,<-l]
  exact h _ (I.tok _)
theorem XW {t':Nat} {ob:HO} (I:Inv X pins σ H s) (mu:Mut (H a)) (hs:bD a s.heap h') (he:∃ q,h'.get? a=some q) (new:ObjOk X.prog X.w (upd H a ob) h' a ob) :
  Inv X pins σ (upd H a ob) { s with heap:=h',toks:=t' }:=
 I.write (x:=a) (e:=a) mu (.inl rfl) (fun b q hb z=>(hs.2 b hb).trans z) he new
theorem qb2 {H':Hp} {kvs:List (Key×V)} {vs:List (Key×Value)} (z:kvs.length<=sizeLine) (hd:(a == sysModules)=false) (rel:KV kvs vs) (dd:h'.DictOf (jg P w) a vs) :
  ObjOk P w H' h' a (.dK kvs):=⟨z,hd,vs,rel,dd⟩
theorem XX {Q:Unit->Shared->Prop} (hu:A.units+1 < cLine) (I:Inv X pins σ H s) (g:DPut H a y v H') (ry:RelV y u) (rv:RelV v r) (h:∀ s',Inv X pins σ H' s'->Q () s') :
  wpAny (model X.prog X.w) A (setItem (.ref a) u r) Q E s:=by
 rcases g with ⟨kvs,k,e,ey,l,eH⟩ | ⟨kvs,k,b,e,ey,eb,l,eH⟩
 ·subst ey eH
  obtain ⟨z,hd,vs,rel,dd⟩:=qgv I.hok e
  have hz:vs.length<=sizeLine:=by rw [<-rel.length]; exact z
  have hl:(Qo kvs k v).length<=sizeLine:=by have:=yj kvs k v; omega
  refine wpAny_setItem_pairs (hsz:=hz) (YJ ry) dd fun h' dd' hs=>h _ ?_
  have he:∃ q,h'.get? a=some q:=let ⟨q,_,_,hq,_⟩:=dd'; ⟨q,hq⟩
  exact XW I (by rw [e]; exact c9) hs he (qb2 hl hd (rel.put k rv) dd')
 ·subst ey eH
  cases (show u=bN b from ry)
  obtain ⟨z,hd,xs,rel,dd⟩:=qgw I.hok e
  have hz:xs.length<=sizeLine:=by rw [<-ej rel]; exact z
  have hl:(Qo kvs k v).length<=sizeLine:=by have:=yj kvs k v; omega
  refine wpAny_setItem_heap (hsz:=hz) (tupleKind_room_in1 hu) (xX I.hok eb) dd fun h' dd' hs=>h _ ?_
  obtain ⟨q,es,ep,hq,h2,h3,h4,_,h5⟩:=dd'
  refine XW I (by rw [e]; exact c9) hs ⟨q,hq⟩ ⟨hl,hd,_,(rel.put k eb rv).keeps fun c ys ec=>?_,q,es,ep,hq,h2,h3,h4,h5⟩
  rw [qD (qf7 ec e (fun z=>nomatch z))]
  exact ec
end
section
variable {kvs:List (Key×V)} {k:Key}
theorem qgx (I:Inv X pins σ H s) (e:Rd H a (.dK kvs)) (h:∀ t s',Inv X pins σ H s'->Q (.int kvs.length t) s'):wpAny (model X.prog X.w) A (call (.builtin "len") [.ref a]) Q E s:=by
 obtain ⟨z,hd,vs,rel,dd⟩:=KD I.hok e
 refine call_len_dict hd dd (by rw [<-rel.length]; rw [sizeLine_eq] at z; omega) ?_
 rw [<-rel.length]
 exact h _ _ (I.tok _)
end
theorem Wi (I:Inv X pins σ H s) (g:DGet H a y o):s.TypeIs (.ref a) "dict":=by
 rcases g with ⟨kvs,k,e,_,_⟩ | ⟨kvs,k,b,e,_,_,_⟩
 ·obtain ⟨_,_,vs,_,dd⟩:=KD I.hok e
  exact dd.typeIs
 ·obtain ⟨_,_,xs,_,dd⟩:=Wh I.hok e
  exact dd.typeIs
def qgy (td ty tv:TE):TS:=fun D σ H=>tv σ H fun v H1=>td σ H1 fun x H2=>ty σ H2 fun y H3=>∃ a H4,x=.ref a/\DPut H3 a y v H4/\D.nx σ H4
variable {pos:Pos}
section
variable {o i e value:Expr} {pos' tpos:Pos} {td ty tv:TE}
theorem qcM (hu:X.A.units+1 < cLine) (ho:PE X o td) (hi:PE X i ty) (hv:PE X value tv) (hs:swapsWith value (some (.Subscript o i pos')) pos.line X.env=pure false) :
  PS X (.Assign [.Subscript o i pos'] value pos) (qgy td ty tv):=by
 refine ⟨?_⟩
 intro pins s σ H D I h
 refine wpAny_Assign_Subscript (thn (hv pins s σ H _ I h) fun r s1 ⟨v,H1,I1,rv,q1⟩=>thn (ho pins s1 σ H1 _ I1 q1) fun u s2 ⟨x,H2,I2,rx,q2⟩=>thn (hi pins s2 σ H2 _ I2 q2) fun iv s3 ⟨y,H3,I3,ry,a,H4,ex,g,q3⟩=>?_) hs
 subst ex
 obtain rfl:u=bN a:=rx
 exact XX hu I3 g ry rv fun s4 I4=>⟨σ,H4,I4,q3⟩
end
theorem qaI (h:Heap) (hb:sysModules < h.objs.size):ObjOk P w H (h.push { cls:=.type "dict",data:=.dict #[] }) h.objs.size (.dK []):=
 ⟨bB _,beq_eq_false_iff_ne.mpr (aX (aA hb)),[],.nil,Heap.DictOf.new h⟩
def qes:TE:=fun _ H Q=>∀ p,H p=none->Q (.ref p) (upd H p (.dK []))
section
theorem qaJ:PE X (.Dict [] [] pos) qes:=⟨fun pins s σ H Q I h=>
 wpAny_Dict_empty ⟨.ref s.heap.objs.size,_,I.laid (a:=s.heap.objs.size) (o:=.dK []) (t':=s.toks) (fun _ _ q=>aa _ q) (ao _) (qaI s.heap I.big),rfl,h _ (I.hok.fresh (ao _))⟩⟩
end
structure M1 (X:Cx) (o:Expr) (m:Str) (apos:Pos) (e:Expr) (cpos:Pos):Prop where
 base:attributeBase o m X.env (eval o X.env)=eval o X.env
 few:((backTo cpos (starEach [e] X.env)).all (fun x=>!x.1)&&(backToKw cpos (keywordEach [] X.env)).all (fun x=>x.1.isSome)
  && decide (([e]:List Expr).length+([]:List Keyword).length+(if ([]:List Keyword).isEmpty then 0 else 1) < 30))=true
 line:(apos.endLine == cpos.line)=true
 trees:backTo cpos (starEach [e] X.env)=[(false,eval e X.env)]
structure M2 (X:Cx) (o:Expr) (m:Str) (apos:Pos) (e f:Expr) (cpos:Pos):Prop where
 base:attributeBase o m X.env (eval o X.env)=eval o X.env
 few:((backTo cpos (starEach [e,f] X.env)).all (fun x=>!x.1)&&(backToKw cpos (keywordEach [] X.env)).all (fun x=>x.1.isSome)
  && decide (([e,f]:List Expr).length+([]:List Keyword).length+(if ([]:List Keyword).isEmpty then 0 else 1) < 30))=true
 line:(apos.endLine == cpos.line)=true
 trees:backTo cpos (starEach [e,f] X.env)=[(false,eval e X.env),(false,eval f X.env)]
def IsD (H:Hp) (a:Addr):Prop:=(∃ kvs,Rd H a (.dK kvs))\/∃ kvs,Rd H a (.dT kvs)
theorem qet (I:Inv X pins σ H s) (d:IsD H a) :
  s.TypeIs (.ref a) "dict"/\(∀ b,bN a=.ref b->∃ ob,s.heap.get? b=some ob/\ob.dict=none)/\(a == sysModules)=false:=by
 rcases d with ⟨kvs,e⟩ | ⟨kvs,e⟩
 ·obtain ⟨_,hd,vs,_,dd⟩:=KD I.hok e
  refine ⟨dd.typeIs,fun b q=>?_,hd⟩
  cases q
  obtain ⟨ob,_,_,h1,h2,_⟩:=dd
  exact ⟨ob,h1,h2.2.1⟩
 ·obtain ⟨_,hd,xs,_,dd⟩:=Wh I.hok e
  refine ⟨dd.typeIs,fun b q=>?_,hd⟩
  cases q
  obtain ⟨ob,_,_,h1,h2,_⟩:=dd
  exact ⟨ob,h1,h2.2.1⟩
section
variable {r:Value}
theorem qeu (hu:A.units+1 < cLine) (I:Inv X pins σ H s) (g:DGet H a y o) (ry:RelV y u) (rd:RelV d r) (h:∀ w' s',Inv X pins σ H s'->RelV (o.getD d) w'->Q w' s') :
  wpAny (model X.prog X.w) A (call (.builtin "dict.get") [.ref a,u,r]) Q E s:=by
 rcases g with ⟨kvs,k,e,ey,l⟩ | ⟨kvs,k,b,e,ey,eb,l⟩
 ·subst ey
  obtain ⟨z,hd,vs,rel,dd⟩:=KD I.hok e
  refine call_meetsIn dG dd.typeIs PySem.F.entry_dict_get (PySem.F.args_dict_get_3 _ _ _) (meets_dict_get_default (jg X.prog X.w) a (YJ ry) hd r) ⟨_,dd.mapOf,h _ _ (I.tok _) ?_⟩
  rw [l]
  exact (rel.val k).getD rd
 ·subst ey
  cases (show u=bN b from ry)
  obtain ⟨z,hd,xs,rel,dd⟩:=Wh I.hok e
  refine call_meetsIn dG dd.typeIs PySem.F.entry_dict_get (PySem.F.args_dict_get_3 _ _ _) (meetsH_dict_get_default (tupleKind (jg X.prog X.w)) a b hd r) ⟨tupleKind_room_in1 hu,k,xs,xX I.hok eb,dd,h _ _ (I.tok _) ?_⟩
  rw [l]
  exact (rel.val k).getD rd
end
def qev (td ty tx:TE):TE:=fun σ H Q=>td σ H fun x H1=>∃ a,x=.ref a/\IsD H1 a/\ty σ H1 fun y H2=>tx σ H2 fun z H3=>∃ o,DGet H3 a y o/\Q (o.getD z) H3
section
variable {o e f:Expr} {apos cpos:Pos} {td ty tx:TE}
theorem qaK (hu:X.A.units+1 < cLine) (ho:PE X o td) (he:PE X e ty) (hf:PE X f tx) (m:M2 X o "get" apos e f cpos):PE X (.Call (.Attribute o "get" apos) [e,f] [] cpos) (qev td ty tx):=by
 refine ⟨?_⟩
 intro pins s σ H Q I h
 refine wpAny_Call_method m.base m.few m.line PySem.F.plainAttrs_dict dG PySem.F.type_dict_get (thn (ho pins s σ H _ I h) fun u s1 ⟨x,H1,I1,rx,a,ex,d,q1⟩=>?_)
 subst ex
 obtain rfl:u=bN a:=rx
 obtain ⟨t1,t2,_⟩:=qet I1 d
 refine ⟨t1,t2,?_⟩
 rw [m.trees]
 refine Calls.callWith_builtin rfl (dL (dq (thn (he pins s1 σ H1 _ I1 q1) fun iv s2 ⟨y,H2,I2,ry,q2⟩=>
  dq (thn (hf pins s2 σ H2 _ I2 q2) fun fv s3 ⟨z,H3,I3,rz,ov,g,q3⟩=>dZ ?_))))
 exact qeu hu I3 g ry rz fun w' s4 I4 rw'=>⟨_,H3,I4,rw',q3⟩
end
section
theorem XY:ub X (.builtin "len") (fun xs H Q=>∃ a kvs,xs=[V.ref a]/\H a=some (.dK kvs)/\Q (.int kvs.length) H):=by
 intro pins s σ H xs us Q I r h
 obtain ⟨a,kvs,rfl,ha,q⟩:=h
 obtain ⟨u,rfl,ru⟩:=yi r
 cases ru
 exact qgx I (.inl ha) fun t s' I'=>⟨.int kvs.length,H,I',⟨t,rfl⟩,q⟩
end
end L2
namespace L2.D2
open PySem PySem.Spec PyProof.Rows
variable {b:List Nat}
theorem vZ {a:List Nat} (h:(a.all fun i=>decide (i∈b))=true):∀ i∈a,i∈b:=fun i hi=>of_decide_eq_true (bh.mp h i hi)
theorem Uv {i:Nat} (h:decide (i∈b)=false):i∉b:=of_decide_eq_false h
noncomputable def XZ:Expr->Bool
 | .Starred ..=>false
 | _=>true
variable {e:Expr} {env:Env}
theorem jP {es:List Expr} (h:XZ e=true):starEach (e::es) env=(false,eval e env)::starEach es env:=by cases e <;> first | rfl | cases h
theorem qY (h:XZ e=true):starEach [e] env=[(false,eval e env)]:=jP h
variable {pos:Pos}
theorem uH:∀ {es:List Expr},es.all XZ=true->(backTo pos (starEach es env)).any (·.1)=false
 | [],_=>rfl
 | e::es,h=>by
  rw [fk,aN] at h
  rw [jP h.1]
  exact uH h.2
theorem wo (h:XZ e=true):((backTo pos (starEach [e] env)).all (fun x=>!x.1)&&(backToKw pos (keywordEach [] env)).all (fun x=>x.1.isSome)
   && decide ([e].length+([]:List Keyword).length+(if ([]:List Keyword).isEmpty then 0 else 1) < 30))=true:=by rw [qY h]; rfl
inductive D where
 | non | bl (b:Bool) | int (i:Int) | str (x:Str)
 | tup (xs:List D) | lst (xs:List D) | dct (kvs:List (Key×D)) | raw (v:V)
 | xcp (C:Addr) | ins (C:Addr) (fs:List (Str×D)) | at_ (a:Addr) (xs:List D)
 deriving Inhabited
abbrev Sl:=List (Option D)
inductive Out (α:Type) where
 | ok (a:α) | exc (c:Str) (o:Sl) | bad
variable {α β:Type}
noncomputable def Out.bind (o:Out α) (k:α->Out β):Out β:=match o with
 | .ok a=>k a
 | .exc c o=>.exc c o
 | .bad=>.bad
@[simp] theorem Out.ok_bind (a:α) (k:α->Out β):(Out.ok a).bind k=k a:=rfl
@[simp] theorem Out.exc_bind (c:Str) (o:Sl) (k:α->Out β):(Out.exc c o:Out α).bind k=.exc c o:=rfl
@[simp] theorem Out.bad_bind (k:α->Out β):(Out.bad:Out α).bind k=.bad:=rfl
noncomputable def QB (a C:Addr):HO:=.ext fun h=>∃ oe vs,h.get? a=some oe/\oe.cls=.ref C/\oe.data=.fields vs
mutual
/-- the value v is the data d,all its objects in F -/
inductive Is (K:Frag) (F:Hp):V->D->Prop
 | non:Is K F .non .non
 | bl (b:Bool):Is K F (.bl b) (.bl b)
 | int (i:Int):Is K F (.int i) (.int i)
 | str {x:Str} (h:x.length<=sizeLine):Is K F (.str x) (.str x)
 | tup {a:Addr} {xs:List V} {ds:List D} (h:SqT K F a xs) (t:IsL K F xs ds):Is K F (.ref a) (.tup ds)
 | lst {a:Addr} {xs:List V} {ds:List D} (h:SqL K F a xs) (t:IsL K F xs ds):Is K F (.ref a) (.lst ds)
 | dct {a:Addr} {kv:List (Key×V)} {kvs:List (Key×D)} (h:F a=some (.dK kv)) (t:IsK K F kv kvs):Is K F (.ref a) (.dct kvs)
 | raw (v:V):Is K F v (.raw v)
 | xcp {a C:Addr} (h:F a=some (QB a C)):Is K F (.ref a) (.xcp C)
 | ins {a C dx:Addr} {fv:List (Str×V)} {fs:List (Str×D)} (h:F a=some (.ins C dx fv)) (t:IsF K F fv fs):Is K F (.ref a) (.ins C fs)
 | at_ {a:Addr} {xs:List V} {ds:List D} (h:SqL K F a xs) (t:IsL K F xs ds):Is K F (.ref a) (.at_ a ds)
inductive IsL (K:Frag) (F:Hp):List V->List D->Prop
 | nil:IsL K F [] []
 | cons {v:V} {d:D} {vs:List V} {ds:List D} (h:Is K F v d) (t:IsL K F vs ds):IsL K F (v::vs) (d::ds)
inductive IsK (K:Frag) (F:Hp):List (Key×V)->List (Key×D)->Prop
 | nil:IsK K F [] []
 | cons {k:Key} {v:V} {d:D} {vs:List (Key×V)} {ds:List (Key×D)} (h:Is K F v d) (t:IsK K F vs ds):IsK K F ((k,v)::vs) ((k,d)::ds)
inductive IsF (K:Frag) (F:Hp):List (Str×V)->List (Str×D)->Prop
 | nil:IsF K F [] []
 | cons {k:Str} {v:V} {d:D} {vs:List (Str×V)} {ds:List (Str×D)} (h:Is K F v d) (t:IsF K F vs ds):IsF K F ((k,v)::vs) ((k,d)::ds)
end
theorem qV {K:Frag} {H H':Hp} {a:Addr} {xs:List V} (e:Same H H') (h:SqT K H a xs):SqT K H' a xs:=by
 rcases h with (h | ⟨o,h⟩) | h
 ·exact .inl (.inl (e _ _ h))
 ·exact .inl (.inr ⟨o,e _ _ h⟩)
 ·exact .inr h
mutual
theorem Is.mono {K:Frag} {F F':Hp} (e:Same F F'):∀ {v:V} {d:D},Is K F v d->Is K F' v d
 | _,_,.non=>.non
 | _,_,.bl b=>.bl b
 | _,_,.int i=>.int i
 | _,_,.str h=>.str h
 | _,_,.tup h t=>.tup (qV e h) (IsL.mono e t)
 | _,_,.lst h t=>.lst (e.seq h) (IsL.mono e t)
 | _,_,.dct h t=>.dct (e _ _ h) (IsK.mono e t)
 | _,_,.raw v=>.raw v
 | _,_,.xcp h=>.xcp (e _ _ h)
 | _,_,.ins h t=>.ins (e _ _ h) (IsF.mono e t)
 | _,_,.at_ h t=>.at_ (e.seq h) (IsL.mono e t)
theorem IsL.mono {K:Frag} {F F':Hp} (e:Same F F'):∀ {vs:List V} {ds:List D},IsL K F vs ds->IsL K F' vs ds
 | _,_,.nil=>.nil
 | _,_,.cons h t=>.cons (Is.mono e h) (IsL.mono e t)
theorem IsK.mono {K:Frag} {F F':Hp} (e:Same F F'):∀ {vs:List (Key×V)} {ds:List (Key×D)},IsK K F vs ds->IsK K F' vs ds
 | _,_,.nil=>.nil
 | _,_,.cons h t=>.cons (Is.mono e h) (IsK.mono e t)
theorem IsF.mono {K:Frag} {F F':Hp} (e:Same F F'):∀ {vs:List (Str×V)} {ds:List (Str×D)},IsF K F vs ds->IsF K F' vs ds
 | _,_,.nil=>.nil
 | _,_,.cons h t=>.cons (Is.mono e h) (IsF.mono e t)
end
theorem IsL.length {K:Frag} {F:Hp}:∀ {vs:List V} {ds:List D},IsL K F vs ds->vs.length=ds.length
 | _,_,.nil=>rfl
 | _,_,.cons _ t=>congrArg (·+1) (IsL.length t)
theorem IsL.get {K:Frag} {F:Hp}:∀ {vs:List V} {ds:List D} {i:Nat} {v:V},IsL K F vs ds->vs[i]?=some v->∃ d,ds[i]?=some d/\Is K F v d
 | _,_,_,_,.nil,e=>by simp at e
 | _,_,0,_,.cons h _,e=>by simp at e; subst e; exact ⟨_,rfl,h⟩
 | _,_,i+1,v,.cons _ t,e=>by
  obtain ⟨d,h1,h2⟩:=IsL.get (i:=i) (v:=v) t (by simpa using e)
  exact ⟨d,by simpa using h1,h2⟩
theorem IsL.getD {K:Frag} {F:Hp}:∀ {vs:List V} {ds:List D} {i:Nat} {d:D},IsL K F vs ds->ds[i]?=some d->∃ v,vs[i]?=some v/\Is K F v d
 | _,_,_,_,.nil,e=>by simp at e
 | _,_,0,_,.cons h _,e=>by simp at e; subst e; exact ⟨_,rfl,h⟩
 | _,_,i+1,v,.cons _ t,e=>by
  obtain ⟨d,h1,h2⟩:=IsL.getD (i:=i) (d:=v) t (by simpa using e)
  exact ⟨d,by simpa using h1,h2⟩
theorem IsL.append {K:Frag} {F:Hp}:∀ {vs ws:List V} {ds es:List D},IsL K F vs ds->IsL K F ws es->IsL K F (vs++ws) (ds++es)
 | _,_,_,_,.nil,s=>s
 | _,_,_,_,.cons h t,s=>.cons h (IsL.append t s)
theorem IsL.take {K:Frag} {F:Hp}:∀ {vs:List V} {ds:List D} (n:Nat),IsL K F vs ds->IsL K F (vs.take n) (ds.take n)
 | _,_,0,_=>.nil
 | _,_,_+1,.nil=>.nil
 | _,_,n+1,.cons h t=>.cons h (IsL.take n t)
theorem IsL.set {K:Frag} {F:Hp} {v:V} {d:D} (h:Is K F v d):∀ {vs:List V} {ds:List D} (i:Nat),IsL K F vs ds->IsL K F (vs.set i v) (ds.set i d)
 | _,_,_,.nil=>.nil
 | _,_,0,.cons _ t=>.cons h t
 | _,_,i+1,.cons q t=>.cons q (IsL.set h i t)
def OwnIs (K:Frag) (F H:Hp) (a:Addr):D->Prop
 | .lst ds=>∃ xs,H a=some (.lst xs)/\IsL K F xs ds
 | .dct kvs=>∃ kv,H a=some (.dK kv)/\IsK K F kv kvs
 | .ins C fs=>∃ dx fv,H a=some (.ins C dx fv)/\IsF K F fv fs
 | .at_ b ds=>b=a/\∃ xs,H a=some (.lst xs)/\IsL K F xs ds
 | _=>False
def TopIs (K:Frag) (F H:Hp) (v:V) (d:D):Prop:=Is K F v d\/∃ a,v=.ref a/\OwnIs K F H a d
inductive Mo where
 | sh | fr | any
def MoIs (K:Frag) (m:Mo) (H0 F H:Hp) (v:V) (d:D):Prop:=match m with
 | .sh=>Is K F v d
 | .fr=>∃ a,v=.ref a/\H0 a=none/\F a=none/\OwnIs K F H a d
 | .any=>TopIs K F H v d
theorem MoIs.top {K:Frag} {m:Mo} {H0 F H:Hp} {v:V} {d:D} (h:MoIs K m H0 F H v d):TopIs K F H v d:=by
 cases m with
 | sh=>exact .inl h
 | fr=>obtain ⟨a,e,_,_,o⟩:=h; exact .inr ⟨a,e,o⟩
 | any=>exact h
structure Chg (A:Addr->Prop) (F H F' H':Hp):Prop where
 keep:∀ b o,H b=some o->¬A b->H' b=some o
 stay:∀ b,H b≠none->H' b≠none
 grow:Same F F'
 new:∀ b,F' b≠none->F b≠none\/H b=none\/A b
theorem Chg.refl {A:Addr->Prop} {F H:Hp}:Chg A F H F H:=⟨fun _ _ e _=>e,fun _ h=>h,Same.refl _,fun _ h=>.inl h⟩
theorem Chg.trans {A A1:Addr->Prop} {F H F1 H1 F2 H2:Hp} (a:Chg A F H F1 H1) (b:Chg A1 F1 H1 F2 H2) (hA:∀ x,A1 x->A x\/H x=none):Chg A F H F2 H2 where
 keep:=fun x o e n=>b.keep x o (a.keep x o e n) fun z=>(hA x z).elim n fun q=>by rw [e] at q; cases q
 stay:=fun x h=>b.stay x (a.stay x h)
 grow:=a.grow.trans b.grow
 new:=fun x h=>by
  rcases b.new x h with q | q | q
  ·exact a.new x q
  ·refine .inr (.inl ?_)
   cases e:H x with
   | none=>rfl
   | some o=>exact absurd q (a.stay x (by rw [e]; simp))
  ·rcases hA x q with z | z
   ·exact .inr (.inr z)
   ·exact .inr (.inl z)
theorem Chg.trans' {A:Addr->Prop} {F H F1 H1 F2 H2:Hp} (a:Chg A F H F1 H1) (b:Chg A F1 H1 F2 H2):Chg A F H F2 H2:=a.trans b fun _ z=>.inl z
theorem Chg.mono {A A':Addr->Prop} {F H F1 H1:Hp} (a:Chg A F H F1 H1) (h:∀ x,A x->A' x):Chg A' F H F1 H1:=
 ⟨fun b o e n=>a.keep b o e fun z=>n (h b z),a.stay,a.grow,fun b z=>(a.new b z).imp id (Or.imp id (h b))⟩
abbrev No:Addr->Prop:=fun _=>False
theorem Chg.ofNo {A:Addr->Prop} {F H F1 H1:Hp} (a:Chg No F H F1 H1):Chg A F H F1 H1:=a.mono fun _ z=>z.elim
structure Rep (K:Frag) (own:List Nat) (F H:Hp) (σ:St) (ρ:Sl):Prop where
 sub:Same F H
 len:σ.length=ρ.length
 val:∀ i d,i∉own->ρ[i]?=some (some d)->∃ v,σ[i]?=some (some v)/\Is K F v d
 ow:∀ i d,i∈own->ρ[i]?=some (some d)->∃ a,σ[i]?=some (some (.ref a))/\F a=none/\OwnIs K F H a d
 opn:∀ i,i∈own->∃ d,ρ[i]?=some (some d)
 dis:∀ i j a,i∈own->j∈own->σ[i]?=some (some (V.ref a))->σ[j]?=some (some (V.ref a))->i=j
def OA (own:List Nat) (σ:St):Addr->Prop:=fun b=>∃ i∈own,σ[i]?=some (some (V.ref b))
theorem OwnIs.there {K:Frag} {F H:Hp} {a:Addr} {d:D} (h:OwnIs K F H a d):H a≠none:=by
 cases d with
 | lst ds=>obtain ⟨xs,e,_⟩:=h; rw [e]; simp
 | dct ds=>obtain ⟨xs,e,_⟩:=h; rw [e]; simp
 | ins C fs=>obtain ⟨dx,xs,e,_⟩:=h; rw [e]; simp
 | at_ b ds=>obtain ⟨_,xs,e,_⟩:=h; rw [e]; simp
 | _=>exact h.elim
theorem OwnIs.grow {K:Frag} {F H F' H':Hp} {a:Addr} {d:D} (h:OwnIs K F H a d) (g:Same F F') (k:∀ o,H a=some o->H' a=some o):OwnIs K F' H' a d:=by
 cases d with
 | lst ds=>obtain ⟨xs,e,t⟩:=h; exact ⟨xs,k _ e,t.mono g⟩
 | dct ds=>obtain ⟨xs,e,t⟩:=h; exact ⟨xs,k _ e,t.mono g⟩
 | ins C fs=>obtain ⟨dx,xs,e,t⟩:=h; exact ⟨dx,xs,k _ e,t.mono g⟩
 | at_ b ds=>obtain ⟨eb,xs,e,t⟩:=h; exact ⟨eb,xs,k _ e,t.mono g⟩
 | _=>exact h.elim
theorem Rep.OA_there {K:Frag} {own:List Nat} {F H:Hp} {σ:St} {ρ:Sl} (r:Rep K own F H σ ρ) {b:Addr} (h:OA own σ b):H b≠none/\F b=none:=by
 obtain ⟨i,hi,e⟩:=h
 obtain ⟨d,hd⟩:=r.opn i hi
 obtain ⟨a,e1,e2,o⟩:=r.ow i d hi hd
 rw [e] at e1
 cases e1
 exact ⟨o.there,e2⟩
theorem Rep.grow {K:Frag} {own:List Nat} {F H F' H':Hp} {σ:St} {ρ:Sl} (r:Rep K own F H σ ρ) (c:Chg No F H F' H') (s:Same F' H'):Rep K own F' H' σ ρ where
 sub:=s
 len:=r.len
 val:=fun i d hi e=>let ⟨v,h1,h2⟩:=r.val i d hi e; ⟨v,h1,h2.mono c.grow⟩
 ow:=fun i d hi e=>by
  obtain ⟨a,h1,h2,h3⟩:=r.ow i d hi e
  refine ⟨a,h1,?_,h3.grow c.grow fun o q=>c.keep a o q fun z=>z⟩
  cases q:F' a with
  | none=>rfl
  | some o=>
   rcases c.new a (by rw [q]; simp) with z | z | z
   ·exact absurd h2 z
   ·exact absurd z h3.there
   ·exact z.elim
 opn:=r.opn
 dis:=r.dis
theorem MoIs.grow {K:Frag} {A:Addr->Prop} {m:Mo} {H0 F H F' H':Hp} {v:V} {d:D} (h:MoIs K m H0 F H v d) (hm:m≠.any) (c:Chg A F H F' H') (hA:∀ x,A x->H0 x≠none):MoIs K m H0 F' H' v d:=by
 cases m with
 | sh=>exact Is.mono c.grow h
 | fr=>
  obtain ⟨a,e,h0,hF,o⟩:=h
  have nA:¬A a:=fun z=>hA a z h0
  refine ⟨a,e,h0,?_,o.grow c.grow fun o q=>c.keep a o q nA⟩
  cases q:F' a with
  | none=>rfl
  | some u=>
   rcases c.new a (by rw [q]; simp) with z | z | z
   ·exact absurd hF z
   ·exact absurd z o.there
   ·exact absurd z nA
 | any=>exact absurd rfl hm
def Xv (K:Frag) (io:List Nat) (F H:Hp) (σ:St) (ρ:Sl):Prop:=∀ i∈io,∃ d a,ρ[i]?=some (some d)/\σ[i]?=some (some (V.ref a))/\F a=none/\OwnIs K F H a d
theorem Rep.ioIs {K:Frag} {own io:List Nat} {F H:Hp} {σ:St} {ρ:Sl} (r:Rep K own F H σ ρ) (h:∀ i∈io,i∈own):Xv K io F H σ ρ:=fun i hi=>by
 obtain ⟨d,hd⟩:=r.opn i (h i hi)
 obtain ⟨a,h1,h2,h3⟩:=r.ow i d (h i hi) hd
 exact ⟨d,a,hd,h1,h2,h3⟩
structure Ct where
 K:Frag
 cv:Str->Value
 E:XK
 io:List Nat
 mr:Mo
 ol:List Nat
 ox:List Nat
 oxs:∀ i∈ox,i∈io
def Po (C:Ct) (own:List Nat) (m:Mo) (σ:St) (F H:Hp) (r:Out (D×Sl)) (Q:VK):Prop:=match r with
 | .ok (d,ρ')=>∀ v F' H',Rep C.K own F' H' σ ρ'->Chg (OA own σ) F H F' H'->MoIs C.K m H F' H' v d->Q v H'
 | .exc c ρ'=>∀ F' H',Same F' H'->Xv C.K C.ox F' H' σ ρ'->Chg (OA own σ) F H F' H'->C.E (C.cv c) none H'
 | .bad=>False
def tE (C:Ct) (own:List Nat) (m:Mo) (f:Sl->Out (D×Sl)):TE:=fun σ H Q=>∃ F ρ,Rep C.K own F H σ ρ/\Po C own m σ F H (f ρ) Q
theorem MoIs.back {K:Frag} {m:Mo} {A:Addr->Prop} {H0 F H F1 H1:Hp} {Fa Ha:Hp} {v:V} {d:D} (c:Chg A Fa H0 F1 H1) (h:MoIs K m H1 F H v d):MoIs K m H0 F H v d:=by
 cases m with
 | sh=>exact h
 | fr=>
  obtain ⟨a,e,h0,r⟩:=h
  refine ⟨a,e,?_,r⟩
  cases q:H0 a with
  | none=>rfl
  | some o=>exact absurd h0 (c.stay a (by rw [q]; simp))
 | any=>exact h
theorem Po.shift {C:Ct} {own:List Nat} {m:Mo} {σ:St} {F H F1 H1:Hp} {r:Out (D×Sl)} {Q:VK} (h:Po C own m σ F H r Q) (c:Chg (OA own σ) F H F1 H1):Po C own m σ F1 H1 r Q:=by
 cases r with
 | ok p=>exact fun v F' H' rp c' mo=>h v F' H' rp (c.trans' c') (MoIs.back (Ha:=H1) c mo)
 | exc x=>exact fun F' H' s io c'=>h F' H' s io (c.trans' c')
 | bad=>exact h.elim
theorem Po.bind {C:Ct} {own:List Nat} {m ma:Mo} {σ:St} {F H:Hp} {o:Out (D×Sl)} {k:D×Sl->Out (D×Sl)} {Q R:VK} (hp:Po C own m σ F H (o.bind k) Q)
  (h:∀ v F1 H1 d ρ1,Rep C.K own F1 H1 σ ρ1->Chg (OA own σ) F H F1 H1->MoIs C.K ma H F1 H1 v d->Po C own m σ F1 H1 (k (d,ρ1)) Q->R v H1):Po C own ma σ F H o R:=by
 cases o with
 | ok p=>
  obtain ⟨d,ρ1⟩:=p
  exact fun v F1 H1 rp c mo=>h v F1 H1 d ρ1 rp c mo (Po.shift (show Po C own m σ F H (k (d,ρ1)) Q from hp) c)
 | exc x=>exact hp
 | bad=>exact hp.elim
def PoV (C:Ct) (m:Mo) (F H:Hp) (r:Out D) (Q:VK):Prop:=match r with
 | .ok d=>∀ v F' H',Same F' H'->Chg No F H F' H'->MoIs C.K m H F' H' v d->Q v H'
 | _=>False
def OpD (X:Cx) (C:Ct) (m:Mo) (f:Value->Value->Sem Value) (g:D->D->Out D):Prop:=
 OpR X f (fun x y H Q=>∃ F dx dy,Same F H/\TopIs C.K F H x dx/\TopIs C.K F H y dy/\PoV C m F H (g dx dy) Q)
def UnD (X:Cx) (C:Ct) (m:Mo) (f:Value->Sem Value) (g:D->Out D):Prop:=
 UnR X f (fun x H Q=>∃ F dx,Same F H/\TopIs C.K F H x dx/\PoV C m F H (g dx) Q)
noncomputable def Out.plain {α:Type}:Out α->Out α
 | .ok a=>.ok a
 | _=>.bad
theorem PoV.of {C:Ct} {own:List Nat} {m:Mo} {σ:St} {F H:Hp} {o:Out D} {ρ:Sl} {Q:VK} (rp:Rep C.K own F H σ ρ) (h:Po C own m σ F H (o.plain.bind fun d=>.ok (d,ρ)) Q):PoV C m F H o Q:=by
 cases o with
 | ok d=>exact fun v F' H' s c mo=>h v F' H' (rp.grow c s) c.ofNo mo
 | exc c=>exact h.elim
 | bad=>exact h.elim
noncomputable def d2 (g:D->D->Out D) (fa fb:Sl->Out (D×Sl)):Sl->Out (D×Sl):=fun ρ=>(fa ρ).bind fun p=>(fb p.2).bind fun q=>(g p.1 q.1).plain.bind fun d=>.ok (d,q.2)
noncomputable def d1 (g:D->Out D) (fa:Sl->Out (D×Sl)):Sl->Out (D×Sl):=fun ρ=>(fa ρ).bind fun p=>(g p.1).plain.bind fun d=>.ok (d,p.2)
section
variable {X:Cx} {C:Ct} {own:List Nat} {a b:Expr} {fa fb:Sl->Out (D×Sl)} {m ma mb:Mo} {pos:Pos}
theorem KG {g:D->D->Out D} {σ:St} {H:Hp} {Q:VK} (hma:ma≠.any) (h:tE C own m (d2 g fa fb) σ H Q) :
  tE C own ma fa σ H fun x H1=>tE C own mb fb σ H1 fun y H2=>∃ F dx dy,Same F H2/\TopIs C.K F H2 x dx/\TopIs C.K F H2 y dy/\PoV C m F H2 (g dx dy) Q:=by
 obtain ⟨F,ρ,rp,h⟩:=h
 refine ⟨F,ρ,rp,Po.bind h fun v F1 H1 d ρ1 rp1 c1 mo1 h1=>⟨F1,ρ1,rp1,Po.bind h1 fun w F2 H2 e ρ2 rp2 c2 mo2 h2=>?_⟩⟩
 exact ⟨F2,d,e,rp2.sub,(mo1.grow hma c2 fun x z=>(rp.OA_there z).1).top,mo2.top,PoV.of rp2 h2⟩
theorem Wj {g:D->Out D} {σ:St} {H:Hp} {Q:VK} (h:tE C own m (d1 g fa) σ H Q) :
  tE C own ma fa σ H fun x H1=>∃ F dx,Same F H1/\TopIs C.K F H1 x dx/\PoV C m F H1 (g dx) Q:=by
 obtain ⟨F,ρ,rp,h⟩:=h
 refine ⟨F,ρ,rp,Po.bind h fun v F1 H1 d ρ1 rp1 c1 mo1 h1=>?_⟩
 exact ⟨F1,d,rp1.sub,mo1.top,PoV.of rp1 h1⟩
theorem jJ {e:Expr} {t t':TE} (h:PE X e t) (i:∀ σ H Q,t' σ H Q->t σ H Q):PE X e t':=⟨fun pins s σ H Q I hw=>h pins s σ H Q I (i σ H Q hw)⟩
theorem qaL {e:Expr} {t t':TT} (h:PT X e t) (i:∀ σ H Q,t' σ H Q->t σ H Q):PT X e t':=⟨fun pins s σ H Q I hw=>h pins s σ H Q I (i σ H Q hw)⟩
theorem qO {op:Operator} {g:D->D->Out D} (ho:OpD X C m (binaryOp op) g) (ha:PE X a (tE C own ma fa)) (hb:PE X b (tE C own mb fb)) (hma:ma≠.any:=by decide):PE X (.BinOp a op b pos) (tE C own m (d2 g fa fb)):=
 jJ (qgi ho ha hb) fun _ _ _ h=>KG hma h
theorem yA {op:CmpOp} {g:D->D->Out D} (ho:OpD X C m (compareOp op) g) (ha:PE X a (tE C own ma fa)) (hb:PE X b (tE C own mb fb)) (hma:ma≠.any:=by decide)
  (hk:behindInMarks op b=false:=by first | exact qb0 _ | with_unfolding_all rfl):PE X (.Compare a [op] [b] pos) (tE C own m (d2 g fa fb)):=
 jJ (qcB ho ha hb hk) fun _ _ _ h=>KG hma h
theorem KH {op:UnaryOp} {g:D->Out D} (ho:UnD X C m (unaryOp op) g) (ha:PE X a (tE C own ma fa)):PE X (.UnaryOp op a pos) (tE C own m (d1 g fa)):=
 jJ (qgj ho ha) fun _ _ _ h=>Wj h
end
instance:DecidableEq Mo:=fun a b=>by cases a <;> cases b <;> first | exact isTrue rfl | exact isFalse (by intro h; cases h)
theorem qaM {K:Frag} {own:List Nat} {H0 F H:Hp} {σ:St} {ρ:Sl} {v:V} {d:D} (rp:Rep K own F H σ ρ) (hA:∀ b,OA own σ b->H0 b≠none) (h:MoIs K .fr H0 F H v d) :
  ∃ F',Rep K own F' H σ ρ/\Same F F'/\Is K F' v d/\∀ b,F' b≠none->F b≠none\/H0 b=none:=by
 obtain ⟨a,rfl,h0,hF,o⟩:=h
 obtain ⟨u,hu⟩:∃ u,H a=some u:=by
  cases q:H a with
  | none=>exact absurd q o.there
  | some u=>exact ⟨u,rfl⟩
 have gr:Same F (upd F a u):=fun b w e=>by rw [qD (qK e hF)]; exact e
 have sb:Same (upd F a u) H:=fun b w e=>by
  by_cases q:b=a
  ·subst q; rw [qw] at e; cases e; exact hu
  ·rw [qD q] at e; exact rp.sub b w e
 refine ⟨upd F a u,⟨sb,rp.len,fun i d hi e=>?_,fun i d hi e=>?_,rp.opn,rp.dis⟩,gr,?_,fun b hb=>?_⟩
 ·obtain ⟨v,h1,h2⟩:=rp.val i d hi e
  exact ⟨v,h1,h2.mono gr⟩
 ·obtain ⟨c,h1,h2,h3⟩:=rp.ow i d hi e
  refine ⟨c,h1,?_,h3.grow gr fun _ q=>q⟩
  have nc:c≠a:=fun q=>by subst q; exact hA c ⟨i,hi,h1⟩ h0
  rw [qD nc]; exact h2
 ·cases d with
  | lst ds=>obtain ⟨xs,e,t⟩:=o; rw [hu] at e; cases e; exact .lst (.inl (.inl qw)) (t.mono gr)
  | dct ds=>obtain ⟨xs,e,t⟩:=o; rw [hu] at e; cases e; exact .dct qw (t.mono gr)
  | ins C fs=>obtain ⟨dx,xs,e,t⟩:=o; rw [hu] at e; cases e; exact .ins qw (t.mono gr)
  | at_ b ds=>obtain ⟨eb,xs,e,t⟩:=o; rw [hu] at e; cases e; subst eb; exact .at_ (.inl (.inl qw)) (t.mono gr)
  | _=>exact o.elim
 ·by_cases q:b=a
  ·exact .inr (by rw [q]; exact h0)
  ·rw [qD q] at hb; exact .inl hb
theorem Po.toSh {C:Ct} {own:List Nat} {m:Mo} {σ:St} {F H:Hp} {ρ0:Sl} {r:Out (D×Sl)} {Q:VK} (rp:Rep C.K own F H σ ρ0) (hm:m≠.any) (h:Po C own .sh σ F H r Q):Po C own m σ F H r Q:=by
 cases r with
 | ok p=>
  intro v F' H' rp' c mo
  cases m with
  | sh=>exact h v F' H' rp' c mo
  | fr=>
   obtain ⟨F2,rp2,gr,is,nw⟩:=qaM rp' (fun b z=>(rp.OA_there z).1) mo
   refine h v F2 H' rp2 ⟨c.keep,c.stay,c.grow.trans gr,fun b hb=>?_⟩ is
   rcases nw b hb with z | z
   ·exact c.new b z
   ·exact .inr (.inl z)
  | any=>exact absurd rfl hm
 | exc x=>exact h
 | bad=>exact h.elim
section
variable {X:Cx} {C:Ct} {own:List Nat} {a b e:Expr} {f fa fb:Sl->Out (D×Sl)} {m ma mb:Mo} {pos:Pos}
theorem yk (h:PE X e (tE C own m f)) (hm:m≠.any):PE X e (tE C own .sh f):=jJ h fun _ _ _ ⟨F,ρ,rp,p⟩=>⟨F,ρ,rp,p.toSh rp hm⟩
noncomputable def ql (i:Nat):Sl->Out (D×Sl):=fun ρ=>match ρ[i]? with
 | some (some d)=>.ok (d,ρ)
 | _=>.bad
noncomputable def dC (d:D):Sl->Out (D×Sl):=fun ρ=>.ok (d,ρ)
theorem qew {i:Nat} {x:Str} (hN:X.N[i]?=some x) (hv:Vis X.env.scope x) (ho:i∉own) (hd:(x == ("__debug__":Str))=false:=by decide) (hcd:(x == ("__classdict__":Str))=false:=by decide):PE X (.Name x pos) (tE C own .sh (ql i)):=by
 refine jJ (yb hN hv hd hcd) fun σ H Q ⟨F,ρ,rp,h⟩=>?_
 unfold ql at h
 cases e:ρ[i]? with
 | none=>rw [e] at h; exact h.elim
 | some o=>
  cases o with
  | none=>rw [e] at h; exact h.elim
  | some d=>
   rw [e] at h
   obtain ⟨v,h1,h2⟩:=rp.val i d ho e
   exact ⟨v,h1,h v F H rp .refl h2⟩
theorem vb {i:Nat} {x:Str} (hN:X.N[i]?=some x) (hv:Vis X.env.scope x) (ho:i∈own) (hd:(x == ("__debug__":Str))=false:=by decide) (hcd:(x == ("__classdict__":Str))=false:=by decide):PE X (.Name x pos) (tE C own .any (ql i)):=by
 refine jJ (yb hN hv hd hcd) fun σ H Q ⟨F,ρ,rp,h⟩=>?_
 unfold ql at h
 cases e:ρ[i]? with
 | none=>rw [e] at h; exact h.elim
 | some o=>
  cases o with
  | none=>rw [e] at h; exact h.elim
  | some d=>
   rw [e] at h
   obtain ⟨a,h1,h2,h3⟩:=rp.ow i d ho e
   exact ⟨_,h1,h _ F H rp .refl (.inr ⟨a,rfl,h3⟩)⟩
theorem qex {v:V} {d:D} (h:PE X e (tC v)) (i:∀ F,Is C.K F v d):PE X e (tE C own .sh (dC d)):=jJ h fun σ H Q ⟨F,ρ,rp,h⟩=>h v F H rp .refl (i F)
theorem qt {i j pos}:PE X (.Constant (.int i) j pos) (tE C own .sh (dC (.int i))):=qex qbV fun _=>.int i
theorem yB {i j pos}:PE X (.Constant (.bool i) j pos) (tE C own .sh (dC (.bl i))):=qex qct fun _=>.bl i
theorem QC {j pos}:PE X (.Constant .none j pos) (tE C own .sh (dC .non)):=qex qd1 fun _=>.non
theorem kL {x j pos} (h:fz x<=sizeLine:=by decide):PE X (.Constant (.str x) j pos) (tE C own .sh (dC (.str x))):=qex qbW fun _=>.str h
theorem Za {x:Str} {v:V} {d:D} {u:Value} (hg:Gl X x) (hm:X.mg x=some u) (r:RelV v u) (i:∀ F,Is C.K F v d) (hd:(x == ("__debug__":Str))=false:=by decide):PE X (.Name x pos) (tE C own .sh (dC d)):=qex (XB hg hm r hd) i
noncomputable def wZ (g:Int->Int->Out D):D->D->Out D
 | .int i,.int j=>g i j
 | _,_=>.bad
theorem TopIs.int {K:Frag} {F H:Hp} {v:V} {i:Int} (h:TopIs K F H v (.int i)):v=.int i:=by
 rcases h with h | ⟨a,_,h⟩
 ·cases h; rfl
 ·exact h.elim
theorem TopIs.str {K:Frag} {F H:Hp} {v:V} {x:Str} (h:TopIs K F H v (.str x)):v=.str x/\x.length<=sizeLine:=by
 rcases h with h | ⟨a,_,h⟩
 ·cases h; exact ⟨rfl,by assumption⟩
 ·exact h.elim
theorem TopIs.bl {K:Frag} {F H:Hp} {v:V} {x:Bool} (h:TopIs K F H v (.bl x)):v=.bl x:=by
 rcases h with h | ⟨a,_,h⟩
 ·cases h; rfl
 ·exact h.elim
theorem TopIs.non {K:Frag} {F H:Hp} {v:V} (h:TopIs K F H v .non):v=.non:=by
 rcases h with h | ⟨a,_,h⟩
 ·cases h; rfl
 ·exact h.elim
theorem TopIs.raw {K:Frag} {F H:Hp} {v u:V} (h:TopIs K F H v (.raw u)):v=u:=by
 rcases h with h | ⟨a,_,h⟩
 ·cases h; rfl
 ·exact h.elim
theorem TopIs.lst {K:Frag} {F H:Hp} {v:V} {ds:List D} (s:Same F H) (h:TopIs K F H v (.lst ds)):∃ a xs,v=.ref a/\SqL K H a xs/\IsL K F xs ds:=by
 rcases h with h | ⟨a,e,h⟩
 ·cases h with
  | lst h t=>exact ⟨_,_,rfl,s.seq h,t⟩
 ·obtain ⟨xs,e2,t⟩:=h
  exact ⟨a,xs,e,.inl (.inl e2),t⟩
theorem TopIs.tup {K:Frag} {F H:Hp} {v:V} {ds:List D} (s:Same F H) (h:TopIs K F H v (.tup ds)):∃ a xs,v=.ref a/\SqT K H a xs/\IsL K F xs ds:=by
 rcases h with h | ⟨a,e,h⟩
 ·cases h with
  | tup h t=>exact ⟨_,_,rfl,qV s h,t⟩
 ·exact h.elim
theorem TopIs.dct {K:Frag} {F H:Hp} {v:V} {ds:List (Key×D)} (s:Same F H) (h:TopIs K F H v (.dct ds)):∃ a kv,v=.ref a/\H a=some (.dK kv)/\IsK K F kv ds:=by
 rcases h with h | ⟨a,e,h⟩
 ·cases h with
  | dct h t=>exact ⟨_,_,rfl,s _ _ h,t⟩
 ·obtain ⟨xs,e2,t⟩:=h
  exact ⟨a,xs,e,e2,t⟩
theorem Uw {fn:Value->Value->Sem Value} {P:Int->Int->Prop} [∀ i j,Decidable (P i j)] {g:Int->Int->V} {gd:Int->Int->D} (ho:OpR X fn (rI P g)) (hg:∀ F i j,Is C.K F (g i j) (gd i j)) :
  OpD X C .sh fn (wZ fun i j=>if P i j then .ok (gd i j) else .bad):=by
 intro pins s σ H x y v u Q I rx ry h
 obtain ⟨F,dx,dy,sb,tx,ty,po⟩:=h
 cases dx <;> try exact po.elim
 cases dy <;> try exact po.elim
 rename_i i j
 have po:PoV C .sh F H (if P i j then .ok (gd i j) else .bad) Q:=po
 obtain rfl:=tx.int
 obtain rfl:=ty.int
 by_cases q:P i j
 ·rw [if_pos q] at po
  exact ho pins s σ H _ _ v u Q I rx ry ⟨i,j,rfl,rfl,q,po (g i j) F H sb .refl (hg F i j)⟩
 ·rw [if_neg q] at po; exact po.elim
theorem Wl {fn:Value->Value->Sem Value} {g:Int->Int->V} {gd:Int->Int->D} (ho:OpR X fn (rI0 g)) (hg:∀ F i j,Is C.K F (g i j) (gd i j)):OpD X C .sh fn (wZ fun i j=>.ok (gd i j)):=by
 intro pins s σ H x y v u Q I rx ry h
 obtain ⟨F,dx,dy,sb,tx,ty,po⟩:=h
 cases dx <;> try exact po.elim
 cases dy <;> try exact po.elim
 rename_i i j
 obtain rfl:=tx.int
 obtain rfl:=ty.int
 exact ho pins s σ H _ _ v u Q I rx ry ⟨i,j,rfl,rfl,po (g i j) F H sb .refl (hg F i j)⟩
noncomputable def gc:D->D->Out D:=wZ fun i j=>.ok (.int (i - j))
theorem xY:OpD X C .sh (binaryOp .Sub) gc:=Wl qee fun _ _ _=>.int _
instance:∀ i j,Decidable (CMul i j):=fun i j=>inferInstanceAs (Decidable (_\/_))
instance:∀ i j,Decidable (qdN i j):=fun i j=>inferInstanceAs (Decidable (_/\_))
noncomputable def Xw:D->D->Out D:=wZ fun i j=>if CMul i j then .ok (.int (i * j)) else .bad
theorem KI:OpD X C .sh (binaryOp .Mult) Xw:=Uw qef fun _ _ _=>.int _
noncomputable def xo:D->D->Out D:=wZ fun i j=>if 0 < j then .ok (.int (i % j)) else .bad
theorem vw:OpD X C .sh (binaryOp .Mod) xo:=Uw qeg fun _ _ _=>.int _
noncomputable def Jh:D->D->Out D:=wZ fun i j=>if qdN i j then .ok (.int (i / j)) else .bad
theorem Ji:OpD X C .sh (binaryOp .FloorDiv) Jh:=Uw qcz fun _ _ _=>.int _
noncomputable def yl (x y:Str):Bool:=decide (x.cps.toList < y.cps.toList)
noncomputable def ltD:D->D->Out D
 | .int i,.int j=>.ok (.bl (decide (i < j)))
 | .str x,.str y=>.ok (.bl (yl x y))
 | _,_=>.bad
theorem qey:OpD X C .sh (compareOp .Lt) ltD:=by
 intro pins s σ H x y v u Q I rx ry h
 obtain ⟨F,dx,dy,sb,tx,ty,po⟩:=h
 cases dx <;> try exact po.elim
 ·cases dy <;> try exact po.elim
  obtain rfl:=tx.int
  obtain rfl:=ty.int
  exact qgk pins s σ H _ _ v u Q I rx ry ⟨_,_,rfl,rfl,po _ F H sb .refl (.bl _)⟩
 ·cases dy <;> try exact po.elim
  obtain ⟨rfl,_⟩:=tx.str
  obtain ⟨rfl,_⟩:=ty.str
  exact XH pins s σ H _ _ v u Q I rx ry ⟨_,_,rfl,rfl,po _ F H sb .refl (.bl _)⟩
end
noncomputable def eqS:D->D->Option Bool
 | .non,.non=>some true
 | .non,.bl _=>some false
 | .non,.int _=>some false
 | .non,.str _=>some false
 | .non,.tup _=>some false
 | .non,.lst _=>some false
 | .bl _,.non=>some false
 | .bl a,.bl b=>some (a == b)
 | .bl a,.int b=>some ((if a then 1 else 0) == b)
 | .bl _,.str _=>some false
 | .bl _,.tup _=>some false
 | .bl _,.lst _=>some false
 | .int _,.non=>some false
 | .int a,.bl b=>some (a == (if b then 1 else 0))
 | .int a,.int b=>some (a == b)
 | .int _,.str _=>some false
 | .int _,.tup _=>some false
 | .int _,.lst _=>some false
 | .str _,.non=>some false
 | .str _,.bl _=>some false
 | .str _,.int _=>some false
 | .str a,.str b=>some (a == b)
 | .str _,.tup _=>some false
 | .str _,.lst _=>some false
 | .tup _,.non=>some false
 | .tup _,.bl _=>some false
 | .tup _,.int _=>some false
 | .tup _,.str _=>some false
 | .tup _,.lst _=>some false
 | .lst _,.non=>some false
 | .lst _,.bl _=>some false
 | .lst _,.int _=>some false
 | .lst _,.str _=>some false
 | .lst _,.tup _=>some false
 | _,_=>none
noncomputable def uf (f:D->D->Option Bool):List D->List D->Option Bool
 | x::xs,y::ys=>(f x y).bind fun a=>(uf f xs ys).bind fun b=>some (a&&b)
 | _,_=>some true
noncomputable def eqN:Nat->D->D->Option Bool
 | n+1,.tup xs,.tup ys=>(uf (eqN n) xs ys).map fun b=>b&&xs.length == ys.length
 | n+1,.lst xs,.lst ys=>if xs.length=ys.length then uf (eqN n) xs ys else some false
 | _,a,b=>eqS a b
theorem Ux {n:Nat} {a b:D} (h1:∀ xs ys,a=.tup xs->b≠.tup ys) (h2:∀ xs ys,a=.lst xs->b≠.lst ys):eqN n a b=eqS a b:=by
 cases n with
 | zero=>rfl
 | succ n=>
  cases a with
  | tup xs=>cases b with
   | tup ys=>exact absurd rfl (h1 xs ys rfl)
   | _=>rfl
  | lst xs=>cases b with
   | lst ys=>exact absurd rfl (h2 xs ys rfl)
   | _=>rfl
  | _=>rfl
noncomputable def itE (f:D->D->Option Bool) (xs ys:List D) (j:Nat):Bool:=((xs[j]?).bind fun x=>(ys[j]?).bind fun y=>f x y).getD false
theorem wa {f:D->D->Option Bool}:∀ {xs ys:List D} {b:Bool},uf f xs ys=some b->b=(aQ (min xs.length ys.length)).all (itE f xs ys)
 | [],ys,b,h=>by simp [uf] at h ⊢; exact h
 | x::xs,[],b,h=>by simp [uf] at h ⊢; exact h
 | x::xs,y::ys,b,h=>by
  unfold uf at h
  cases e:f x y with
  | none=>rw [e] at h; simp at h
  | some a=>
   cases e2:uf f xs ys with
   | none=>rw [e,e2] at h; simp at h
   | some c=>
    rw [e,e2] at h
    have h:(a&&c)=b:=by simpa using h
    have ih:=wa e2
    have hm:min (x::xs).length (y::ys).length=min xs.length ys.length+1:=by simp only [aq]; omega
    rw [hm,List.range_succ_eq_map,fk,List.all_map]
    have e0:itE f (x::xs) (y::ys) 0=a:=by simp [itE,e]
    have e1:(itE f (x::xs) (y::ys)) ∘ Nat.succ=itE f xs ys:=by
     funext j
     simp [itE]
    rw [e0,e1,<-ih]
    exact h.symm
theorem Zb {f:D->D->Option Bool}:∀ {xs ys:List D} {b:Bool},uf f xs ys=some b->∀ (j:Nat) (x y:D),xs[j]?=some x->ys[j]?=some y->f x y=some (itE f xs ys j)
 | [],ys,b,_,j,x,y,hx,_=>by simp at hx
 | x::xs,[],b,_,j,_,y,_,hy=>by simp at hy
 | x::xs,y::ys,b,h,0,x',y',hx,hy=>by
  simp at hx hy
  subst hx hy
  unfold uf at h
  cases e:f x y with
  | none=>rw [e] at h; simp at h
  | some a=>simp [itE,e]
 | x::xs,y::ys,b,h,j+1,x',y',hx,hy=>by
  unfold uf at h
  cases e:f x y with
  | none=>rw [e] at h; simp at h
  | some a=>
   cases e2:uf f xs ys with
   | none=>rw [e,e2] at h; simp at h
   | some c=>
    have q:=Zb e2 j x' y' (by simpa using hx) (by simpa using hy)
    rw [q]
    simp [itE]
section
variable {X:Cx} {pins:List (Addr×Obj)} {σ:St} {F H:Hp} {s:Shared}
theorem Zc (I:Inv X pins σ H s) (sb:Same F H):∀ (n:Nat) {v:V} {d e:D} {b:Bool},Is X.K F v d->Is X.K F v e->eqN n d e=some b->b=true:=by
 intro n
 induction n with
 | zero=>
  intro v d e b h1 h2 h
  cases h1 <;> cases h2 <;> simp [eqN,eqS] at h <;> try exact h.symm
  all_goals first
   | exact h
   | (rename_i p1 _ _ _ p2 _; obtain ⟨_,_,q1,_⟩:=I.list (sb.seq (by assumption)); obtain ⟨_,_,q2,_⟩:=I.tuple (qV sb (by assumption)); exact absurd rfl (bZ q1.isList q2))
   | (rename_i p1 _ _ _ p2 _; obtain ⟨_,_,q1,_⟩:=I.list (sb.seq (by assumption)); obtain ⟨_,_,q2,_⟩:=I.tuple (qV sb (by assumption)); exact absurd rfl (bZ q1.isList q2).symm)
   | skip
 | succ n ih=>
  have lists:∀ {xs:List V} {ds es:List D} {b:Bool},IsL X.K F xs ds->IsL X.K F xs es->uf (eqN n) ds es=some b->b=true:=by
   intro xs
   induction xs with
   | nil=>intro ds es b h1 h2 h; cases h1; cases h2; simp [uf] at h; exact h
   | cons x xs ihx=>
    intro ds es b h1 h2 h
    cases h1 with
    | cons a1 t1=>
     cases h2 with
     | cons a2 t2=>
      rename_i d ds e es
      unfold uf at h
      cases q:eqN n d e with
      | none=>rw [q] at h; simp at h
      | some a=>
       cases q2:uf (eqN n) ds es with
       | none=>rw [q,q2] at h; simp at h
       | some c=>
        rw [q,q2] at h
        rw [ih a1 a2 q,ihx t1 t2 q2] at h
        simpa using h.symm
  intro v d e b h1 h2 h
  cases h1 with
  | tup p1 t1=>
   cases h2 with
   | tup p2 t2=>
    have e:=I.tuple_inj (qV sb p1) (qV sb p2)
    subst e
    simp only [eqN] at h
    rename_i xs ds es
    cases q:uf (eqN n) ds es with
    | none=>rw [q] at h; simp at h
    | some c=>
     rw [q] at h
     have hl:ds.length=es.length:=by rw [<-t1.length,<-t2.length]
     have hb:(ds.length == es.length)=true:=by simp [hl]
     rw [lists t1 t2 q] at h
     simpa [hb] using h.symm
   | lst p2 t2=>
    obtain ⟨_,_,q1,_⟩:=I.list (sb.seq p2)
    obtain ⟨_,_,q2,_⟩:=I.tuple (qV sb p1)
    exact absurd rfl (bZ q1.isList q2)
   | _=>simp [eqN,eqS] at h
  | lst p1 t1=>
   cases h2 with
   | lst p2 t2=>
    have e:=I.list_inj (sb.seq p1) (sb.seq p2)
    subst e
    simp only [eqN] at h
    have hl:=t1.length.symm.trans t2.length
    rw [if_pos hl] at h
    exact lists t1 t2 h
   | tup p2 t2=>
    obtain ⟨_,_,q1,_⟩:=I.list (sb.seq p1)
    obtain ⟨_,_,q2,_⟩:=I.tuple (qV sb p2)
    exact absurd rfl (bZ q1.isList q2)
   | _=>simp [eqN,eqS] at h
  | _=>cases h2 <;> simp [eqN,eqS] at h <;> first | exact h.symm | exact h | skip
end
open PySem.SeqAt
section
variable {X:Cx} {pins:List (Addr×Obj)} {σ:St} {F H:Hp} {s:Shared}
theorem Vals.getE {xs:List V} {us:List Value} (r:Vals xs us) {j:Nat} (h:j < us.length):∃ x,xs[j]?=some x/\RelV x us[j]:=by
 have hl:=r.length
 have hj:j < xs.length:=by omega
 obtain ⟨u,e1,e2⟩:=Vals.get (i:=j) (x:=xs[j]) r (by simp [hj])
 refine ⟨xs[j],by simp [hj],?_⟩
 rw [aG h] at e1
 cases e1
 exact e2
theorem uI {A:Around} {n:Nat} {xs ys:List V} {ds es:List D} {us ws:List Value} {b:Bool} (ih:∀ {v w:V} {d e:D} {u t:Value} {b:Bool},Is X.K F v d->Is X.K F w e->RelV v u->RelV w t->eqN n d e=some b->EqAt A s u t b)
  (r1:Vals xs us) (r2:Vals ys ws) (i1:IsL X.K F xs ds) (i2:IsL X.K F ys es) (h:uf (eqN n) ds es=some b) :
  ∀ j (h1:j < us.toArray.size) (h2:j < ws.toArray.size),EqAt A s us.toArray[j] ws.toArray[j] (itE (eqN n) ds es j):=by
 intro j h1 h2
 have h1':j < us.length:=by simpa using h1
 have h2':j < ws.length:=by simpa using h2
 obtain ⟨x,ex,rx⟩:=Vals.getE r1 h1'
 obtain ⟨y,ey,ry⟩:=Vals.getE r2 h2'
 obtain ⟨d,ed,idd⟩:=i1.get ex
 obtain ⟨e,ee,ie⟩:=i2.get ey
 have q:=Zb h j d e ed ee
 simpa using ih idd ie rx ry q
theorem Uy {A:Around} {n:Nat} {a c:Addr} {xs ys:List V} {ds es:List D} {b:Bool} (I:Inv X pins σ H s) (ih:∀ {v w:V} {d e:D} {u t:Value} {b:Bool},Is X.K F v d->Is X.K F w e->RelV v u->RelV w t->eqN n d e=some b->EqAt A.in1 s u t b)
  (p1:SqT X.K H a xs) (p2:SqT X.K H c ys) (i1:IsL X.K F xs ds) (i2:IsL X.K F ys es) (h:eqN (n+1) (.tup ds) (.tup es)=some b) (hu:A.units < cLine):RcAt A s (.ref a) (.ref c) b:=by
 obtain ⟨us,r1,t1,_⟩:=I.tuple p1
 obtain ⟨ws,r2,t2,_⟩:=I.tuple p2
 simp only [eqN] at h
 cases q:uf (eqN n) ds es with
 | none=>rw [q] at h; simp at h
 | some k=>
  rw [q] at h
  have l1:us.toArray.size=ds.length:=by rw [ak,<-r1.length,i1.length]
  have l2:ws.toArray.size=es.length:=by rw [ak,<-r2.length,i2.length]
  have z:=RcAt.tuples (A:=A) t1 t2 hu (uI (A:=A.in1) ih r1 r2 i1 i2 q)
  rw [l1,l2,<-wa q] at z
  have e:b=(k&&ds.length == es.length):=by simpa using h.symm
  rw [e]; exact z
theorem Uz {A:Around} {n:Nat} {a c:Addr} {xs ys:List V} {ds es:List D} {b:Bool} (I:Inv X pins σ H s) (ih:∀ {v w:V} {d e:D} {u t:Value} {b:Bool},Is X.K F v d->Is X.K F w e->RelV v u->RelV w t->eqN n d e=some b->EqAt A.in1 s u t b)
  (p1:SqL X.K H a xs) (p2:SqL X.K H c ys) (i1:IsL X.K F xs ds) (i2:IsL X.K F ys es) (h:eqN (n+1) (.lst ds) (.lst es)=some b) (hu:A.units < cLine):RcAt A s (.ref a) (.ref c) b:=by
 obtain ⟨us,r1,t1,_⟩:=I.list p1
 obtain ⟨ws,r2,t2,_⟩:=I.list p2
 have l1:us.toArray.size=ds.length:=by rw [ak,<-r1.length,i1.length]
 have l2:ws.toArray.size=es.length:=by rw [ak,<-r2.length,i2.length]
 simp only [eqN] at h
 by_cases hl:ds.length=es.length
 ·rw [if_pos hl] at h
  have z:=RcAt.lists (A:=A) t1.isList t2.isList (by omega) hu (uI (A:=A.in1) ih r1 r2 i1 i2 h)
  have e:=wa h
  rw [l1] at z
  rw [e,show min ds.length es.length=ds.length by omega]
  exact z
 ·rw [if_neg hl] at h
  cases h
  exact RcAt.lists_lengths t1.isList t2.isList (bne_iff_ne.mpr (by rw [l1,l2]; exact hl)) hu
def Kd (s:Shared):D->Value->Prop
 | .non,u=>u=.none
 | .bl b,u=>u=.bool b
 | .int i,u=>∃ t,u=.int i t
 | .str x,u=>∃ t,u=.str x t
 | .tup _,u=>∃ a its,u=.ref a/\s.heap.IsTuple a its
 | .lst _,u=>∃ a its,u=.ref a/\s.heap.IsList a its
 | _,_=>True
theorem YK (I:Inv X pins σ H s) (sb:Same F H) {v:V} {d:D} {u:Value} (t:TopIs X.K F H v d) (r:RelV v u):Kd s d u:=by
 cases d with
 | non=>obtain rfl:=t.non; exact r
 | bl=>obtain rfl:=t.bl; exact r
 | int=>obtain rfl:=t.int; exact r
 | str=>obtain ⟨rfl,_⟩:=t.str; exact r
 | tup=>obtain ⟨a,_,rfl,p,_⟩:=t.tup sb; obtain ⟨_,_,q,_⟩:=I.tuple p; exact ⟨a,_,r,q⟩
 | lst=>obtain ⟨a,_,rfl,p,_⟩:=t.lst sb; obtain ⟨_,_,q,_⟩:=I.list p; exact ⟨a,_,r,q.isList⟩
 | _=>trivial
theorem qez {A:Around} {d e:D} {u t:Value} {b:Bool} (hu:A.units < cLine) (k1:Kd s d u) (k2:Kd s e t) (h:eqS d e=some b):EqAt A s u t b:=by
 cases d <;> cases e <;> try (cases h; done)
 all_goals
  cases h
  first | obtain ⟨_,_,rfl,q1⟩:=k1 | obtain ⟨_,rfl⟩:=k1 | cases k1
  first | obtain ⟨_,_,rfl,q2⟩:=k2 | obtain ⟨_,rfl⟩:=k2 | cases k2
  with_reducible first | exact EqAt.same _ | exact EqAt.none_bool _ | exact EqAt.none_int _ _ | exact EqAt.none_str _ _ | exact EqAt.bool_none _ | exact EqAt.bool_bool _ _ | exact EqAt.bool_int _ _ _ | exact EqAt.bool_str _ _ _ | exact EqAt.int_none _ _ | exact EqAt.int_bool _ _ _ | exact EqAt.int_int _ _ _ _ | exact EqAt.int_str _ _ _ _ | exact EqAt.str_none _ _ | exact EqAt.str_bool _ _ _ | exact EqAt.str_int _ _ _ _ | exact EqAt.str_str _ _ _ _ | exact EqAt.none_tuple q2 hu | exact EqAt.tuple_none q1 hu | exact EqAt.none_list q2 hu | exact EqAt.list_none q1 hu | exact EqAt.bool_tuple _ q2 hu | exact EqAt.tuple_bool _ q1 hu | exact EqAt.bool_list _ q2 hu | exact EqAt.list_bool _ q1 hu | exact EqAt.int_tuple _ _ q2 hu | exact EqAt.tuple_int _ _ q1 hu | exact EqAt.int_list _ _ q2 hu | exact EqAt.list_int _ _ q1 hu | exact EqAt.str_tuple _ _ q2 hu | exact EqAt.tuple_str _ _ q1 hu | exact EqAt.str_list _ _ q2 hu | exact EqAt.list_str _ _ q1 hu | exact EqAt.tuple_list q1 q2 hu | exact EqAt.list_tuple q1 q2 hu
theorem Zd (I:Inv X pins σ H s) (sb:Same F H):∀ (n:Nat) {A:Around} {v w:V} {d e:D} {u t:Value} {b:Bool},A.units+n < cLine->Is X.K F v d->Is X.K F w e->RelV v u->RelV w t->eqN n d e=some b->EqAt A s u t b:=by
 intro n
 induction n with
 | zero=>exact fun hu h1 h2 rx ry h=>qez (by omega) (YK I sb (.inl h1) rx) (YK I sb (.inl h2) ry) h
 | succ n ih=>
  intro A v w d e u t b hu h1 h2 rx ry h
  have hu1:A.in1.units+n < cLine:=by show A.units+1+n < cLine; omega
  by_cases both:(∃ xs ys,d=.tup xs/\e=.tup ys)\/(∃ xs ys,d=.lst xs/\e=.lst ys)
  ·rcases both with ⟨ds,es,rfl,rfl⟩ | ⟨ds,es,rfl,rfl⟩
   ·have h1':=h1
    have h2':=h2
    cases h1 with
    | tup p1 t1=>
     cases h2 with
     | tup p2 t2=>
      rename_i a xs c ys
      cases rx
      cases ry
      by_cases ne:a=c
      ·subst ne
       rw [Zc I sb (n+1) h1' h2' h]
       exact EqAt.same _
      ·exact EqAt.of_refs ne (Uy I (fun a1 a2 a3 a4 a5=>ih hu1 a1 a2 a3 a4 a5) (qV sb p1) (qV sb p2) t1 t2 h (by omega))
   ·have h1':=h1
    have h2':=h2
    cases h1 with
    | lst p1 t1=>
     cases h2 with
     | lst p2 t2=>
      rename_i a xs c ys
      cases rx
      cases ry
      by_cases ne:a=c
      ·subst ne
       rw [Zc I sb (n+1) h1' h2' h]
       exact EqAt.same _
      ·exact EqAt.of_refs ne (Uz I (fun a1 a2 a3 a4 a5=>ih hu1 a1 a2 a3 a4 a5) (sb.seq p1) (sb.seq p2) t1 t2 h (by omega))
  ·have e1:eqN (n+1) d e=eqS d e:=Ux (fun xs ys a1 a2=>both (.inl ⟨xs,ys,a1,a2⟩)) (fun xs ys a1 a2=>both (.inr ⟨xs,ys,a1,a2⟩))
   have e2:eqN n d e=eqS d e:=Ux (fun xs ys a1 a2=>both (.inl ⟨xs,ys,a1,a2⟩)) (fun xs ys a1 a2=>both (.inr ⟨xs,ys,a1,a2⟩))
   exact ih (by omega) h1 h2 rx ry (by rw [e2,<-e1]; exact h)
end
end L2.D2
namespace L2.D2
open PySem PySem.Spec PyProof.Rows
open PySem.SeqAt
variable {X:Cx} {A:Around} {n:Nat} {b:Bool}
section
variable {pins:List (Addr×Obj)} {σ:St} {F H:Hp} {s:Shared}
theorem qaN {a c:Addr} {xs ys:List V} {ds es:List D} (I:Inv X pins σ H s) (ih:∀ {v w:V} {d e:D} {u t:Value} {b:Bool},Is X.K F v d->Is X.K F w e->RelV v u->RelV w t->eqN n d e=some b->EqAt A.in1 s u t b)
  (p1:SqT X.K H a xs) (p2:SqT X.K H c ys) (i1:IsL X.K F xs ds) (i2:IsL X.K F ys es) (h:eqN (n+1) (.tup ds) (.tup es)=some b) (hu:A.units < cLine):RcNeAt A s (.ref a) (.ref c) (!b):=by
 obtain ⟨us,r1,t1,_⟩:=I.tuple p1
 obtain ⟨ws,r2,t2,_⟩:=I.tuple p2
 simp only [eqN] at h
 cases q:uf (eqN n) ds es with
 | none=>rw [q] at h; simp at h
 | some k=>
  rw [q] at h
  have l1:us.toArray.size=ds.length:=by rw [ak,<-r1.length,i1.length]
  have l2:ws.toArray.size=es.length:=by rw [ak,<-r2.length,i2.length]
  have z:=RcNeAt.tuples (A:=A) t1 t2 hu (uI (A:=A.in1) ih r1 r2 i1 i2 q)
  rw [l1,l2,<-wa q] at z
  have e:b=(k&&ds.length == es.length):=by simpa using h.symm
  rw [e]; exact z
theorem qaO {a c:Addr} {xs ys:List V} {ds es:List D} (I:Inv X pins σ H s) (ih:∀ {v w:V} {d e:D} {u t:Value} {b:Bool},Is X.K F v d->Is X.K F w e->RelV v u->RelV w t->eqN n d e=some b->EqAt A.in1 s u t b)
  (p1:SqL X.K H a xs) (p2:SqL X.K H c ys) (i1:IsL X.K F xs ds) (i2:IsL X.K F ys es) (h:eqN (n+1) (.lst ds) (.lst es)=some b) (hu:A.units < cLine):RcNeAt A s (.ref a) (.ref c) (!b):=by
 obtain ⟨us,r1,t1,_⟩:=I.list p1
 obtain ⟨ws,r2,t2,_⟩:=I.list p2
 have l1:us.toArray.size=ds.length:=by rw [ak,<-r1.length,i1.length]
 have l2:ws.toArray.size=es.length:=by rw [ak,<-r2.length,i2.length]
 simp only [eqN] at h
 by_cases hl:ds.length=es.length
 ·rw [if_pos hl] at h
  have z:=RcNeAt.lists (A:=A) t1.isList t2.isList (by omega) hu (uI (A:=A.in1) ih r1 r2 i1 i2 h)
  have e:=wa h
  rw [l1] at z
  rw [e,show min ds.length es.length=ds.length by omega]
  exact z
 ·rw [if_neg hl] at h
  cases h
  exact RcNeAt.lists_lengths t1.isList t2.isList (bne_iff_ne.mpr (by rw [l1,l2]; exact hl)) hu
theorem qeA (I:Inv X pins σ H s) (sb:Same F H) {v w:V} {d e:D} {u t:Value} (hu':A.units+n+1 < cLine) (t1:TopIs X.K F H v d) (t2:TopIs X.K F H w e) (rx:RelV v u) (ry:RelV w t) (h:eqN (n+1) d e=some b):RcAt A s u t b:=by
 have hu:A.units < cLine:=by omega
 have ih:∀ {v w:V} {d e:D} {u t:Value} {b:Bool},Is X.K F v d->Is X.K F w e->RelV v u->RelV w t->eqN n d e=some b->EqAt A.in1 s u t b:=fun a1 a2 a3 a4 a5=>Zd I sb n (by show A.units+1+n < cLine; omega) a1 a2 a3 a4 a5
 have k1:=YK I sb t1 rx
 have k2:=YK I sb t2 ry
 cases d <;> cases e <;> try (cases h; done)
 case tup.tup=>
  obtain ⟨a,xs,rfl,p1,i1⟩:=t1.tup sb; obtain ⟨c,ys,rfl,p2,i2⟩:=t2.tup sb; cases rx; cases ry
  exact Uy I ih p1 p2 i1 i2 h hu
 case lst.lst=>
  obtain ⟨a,xs,rfl,p1,i1⟩:=t1.lst sb; obtain ⟨c,ys,rfl,p2,i2⟩:=t2.lst sb; cases rx; cases ry
  exact Uz I ih p1 p2 i1 i2 h hu
 all_goals
  cases h
  clear rx ry t1 t2
  first | obtain ⟨_,_,rfl,q1⟩:=k1 | obtain ⟨_,rfl⟩:=k1 | cases k1
  first | obtain ⟨_,_,rfl,q2⟩:=k2 | obtain ⟨_,rfl⟩:=k2 | cases k2
  with_reducible first | exact RcAt.none_none | exact RcAt.none_bool _ | exact RcAt.none_int _ _ | exact RcAt.none_str _ _ | exact RcAt.bool_none _ | exact RcAt.bool_bool _ _ | exact RcAt.bool_int _ _ _ | exact RcAt.bool_str _ _ _ | exact RcAt.int_none _ _ | exact RcAt.int_bool _ _ _ | exact RcAt.int_int _ _ _ _ | exact RcAt.int_str _ _ _ _ | exact RcAt.str_none _ _ | exact RcAt.str_bool _ _ _ | exact RcAt.str_int _ _ _ _ | exact RcAt.str_str _ _ _ _ | exact RcAt.none_tuple q2 hu | exact RcAt.tuple_none q1 hu | exact RcAt.none_list q2 hu | exact RcAt.list_none q1 hu | exact RcAt.bool_tuple _ q2 hu | exact RcAt.tuple_bool _ q1 hu | exact RcAt.bool_list _ q2 hu | exact RcAt.list_bool _ q1 hu | exact RcAt.int_tuple _ _ q2 hu | exact RcAt.tuple_int _ _ q1 hu | exact RcAt.int_list _ _ q2 hu | exact RcAt.list_int _ _ q1 hu | exact RcAt.str_tuple _ _ q2 hu | exact RcAt.tuple_str _ _ q1 hu | exact RcAt.str_list _ _ q2 hu | exact RcAt.list_str _ _ q1 hu | exact RcAt.tuple_list q1 q2 hu | exact RcAt.list_tuple q1 q2 hu
theorem qeB (I:Inv X pins σ H s) (sb:Same F H) {v w:V} {d e:D} {u t:Value} (hu':A.units+n+1 < cLine) (t1:TopIs X.K F H v d) (t2:TopIs X.K F H w e) (rx:RelV v u) (ry:RelV w t) (h:eqN (n+1) d e=some b):RcNeAt A s u t (!b):=by
 have hu:A.units < cLine:=by omega
 have ih:∀ {v w:V} {d e:D} {u t:Value} {b:Bool},Is X.K F v d->Is X.K F w e->RelV v u->RelV w t->eqN n d e=some b->EqAt A.in1 s u t b:=fun a1 a2 a3 a4 a5=>Zd I sb n (by show A.units+1+n < cLine; omega) a1 a2 a3 a4 a5
 have k1:=YK I sb t1 rx
 have k2:=YK I sb t2 ry
 cases d <;> cases e <;> try (cases h; done)
 case tup.tup=>
  obtain ⟨a,xs,rfl,p1,i1⟩:=t1.tup sb; obtain ⟨c,ys,rfl,p2,i2⟩:=t2.tup sb; cases rx; cases ry
  exact qaN I ih p1 p2 i1 i2 h hu
 case lst.lst=>
  obtain ⟨a,xs,rfl,p1,i1⟩:=t1.lst sb; obtain ⟨c,ys,rfl,p2,i2⟩:=t2.lst sb; cases rx; cases ry
  exact qaO I ih p1 p2 i1 i2 h hu
 all_goals
  cases h
  clear rx ry t1 t2
  first | obtain ⟨_,_,rfl,q1⟩:=k1 | obtain ⟨_,rfl⟩:=k1 | cases k1
  first | obtain ⟨_,_,rfl,q2⟩:=k2 | obtain ⟨_,rfl⟩:=k2 | cases k2
  try simp only [Bool.not_true,Bool.not_false]
  with_reducible first | exact RcNeAt.none_none | exact RcNeAt.none_bool _ | exact RcNeAt.none_int _ _ | exact RcNeAt.none_str _ _ | exact RcNeAt.bool_none _ | exact RcNeAt.bool_bool _ _ | exact RcNeAt.bool_int _ _ _ | exact RcNeAt.bool_str _ _ _ | exact RcNeAt.int_none _ _ | exact RcNeAt.int_bool _ _ _ | exact RcNeAt.int_int _ _ _ _ | exact RcNeAt.int_str _ _ _ _ | exact RcNeAt.str_none _ _ | exact RcNeAt.str_bool _ _ _ | exact RcNeAt.str_int _ _ _ _ | exact RcNeAt.str_str _ _ _ _ | exact RcNeAt.none_tuple q2 hu | exact RcNeAt.tuple_none q1 hu | exact RcNeAt.none_list q2 hu | exact RcNeAt.list_none q1 hu | exact RcNeAt.bool_tuple _ q2 hu | exact RcNeAt.tuple_bool _ q1 hu | exact RcNeAt.bool_list _ q2 hu | exact RcNeAt.list_bool _ q1 hu | exact RcNeAt.int_tuple _ _ q2 hu | exact RcNeAt.tuple_int _ _ q1 hu | exact RcNeAt.int_list _ _ q2 hu | exact RcNeAt.list_int _ _ q1 hu | exact RcNeAt.str_tuple _ _ q2 hu | exact RcNeAt.tuple_str _ _ q1 hu | exact RcNeAt.str_list _ _ q2 hu | exact RcNeAt.list_str _ _ q1 hu | exact RcNeAt.tuple_list q1 q2 hu | exact RcNeAt.list_tuple q1 q2 hu | with_unfolding_all first | exact RcNeAt.bool_bool _ _ | exact RcNeAt.bool_int _ _ _ | exact RcNeAt.int_bool _ _ _ | exact RcNeAt.int_int _ _ _ _ | exact RcNeAt.str_str _ _ _ _
end
noncomputable def eqD (a b:D):Out D:=match eqN 8 a b with
 | some c=>.ok (.bl c)
 | none=>.bad
noncomputable def neD (a b:D):Out D:=match eqN 8 a b with
 | some c=>.ok (.bl (!c))
 | none=>.bad
section
variable {C:Ct}
theorem ya (hK:C.K=X.K) (hu:X.A.units+64 < cLine):OpD X C .sh (compareOp .Eq) eqD:=by
 intro pins s σ H x y v u Q I rx ry h
 obtain ⟨F,dx,dy,sb,tx,ty,po⟩:=h
 rw [hK] at tx ty
 unfold eqD at po
 cases e:eqN 8 dx dy with
 | none=>rw [e] at po; exact po.elim
 | some c=>
  rw [e] at po
  exact qeA I sb (n:=7) (by omega) tx ty rx ry e _ _ _ _ ⟨.bl c,H,I,rfl,po _ F H sb .refl (.bl _)⟩
theorem ge (hK:C.K=X.K) (hu:X.A.units+64 < cLine):OpD X C .sh (compareOp .NotEq) neD:=by
 intro pins s σ H x y v u Q I rx ry h
 obtain ⟨F,dx,dy,sb,tx,ty,po⟩:=h
 rw [hK] at tx ty
 unfold neD at po
 cases e:eqN 8 dx dy with
 | none=>rw [e] at po; exact po.elim
 | some c=>
  rw [e] at po
  exact qeB I sb (n:=7) (by omega) tx ty rx ry e _ _ _ _ ⟨.bl _,H,I,rfl,po _ F H sb .refl (.bl _)⟩
end
end L2.D2
namespace L2.D2
open PySem PySem.Spec PyProof.Rows
open PySem.SeqAt
variable {X:Cx} {pins:List (Addr×Obj)} {σ:St} {F H:Hp} {s:Shared} {n:Nat} {v:V} {d e:D} {b:Bool}
section
theorem qcN (I:Inv X pins σ H s) (sb:Same F H):∀ (n:Nat) {v:V} {d d' e:D} {b b':Bool},Is X.K F v d->Is X.K F v d'->eqN n d e=some b->eqN n d' e=some b'->b=b':=by
 have notTL:∀ {a:Addr} {xs ys:List V},SqT X.K F a xs->SqL X.K F a ys->False:=fun p q=>by
  obtain ⟨_,_,q1,_⟩:=I.list (sb.seq q)
  obtain ⟨_,_,q2,_⟩:=I.tuple (qV sb p)
  exact absurd rfl (ne_of_list_tuple q1.isList q2)
 intro n
 induction n with
 | zero=>
  intro v d d' e b b' h1 h2 e1 e2
  have e1:eqS d e=some b:=e1
  have e2:eqS d' e=some b':=e2
  cases h1 <;> cases h2 <;> first
   | exact aK.inj (e1.symm.trans e2)
   | exact (notTL (by assumption) (by assumption)).elim
   | (refine aK.inj (e1.symm.trans (cZ ?_ e2)); cases e <;> rfl; done)
   | (refine nomatch (show none=some b' from cZ ?_ e2); cases e <;> rfl; done)
   | (refine nomatch (show none=some b from cZ ?_ e1); cases e <;> rfl; done)
 | succ n ih=>
  have lists:∀ {xs:List V} {ds ds' es:List D} {b b':Bool},IsL X.K F xs ds->IsL X.K F xs ds'->uf (eqN n) ds es=some b->uf (eqN n) ds' es=some b'->b=b':=by
   intro xs
   induction xs with
   | nil=>intro ds ds' es b b' h1 h2 e1 e2; cases h1; cases h2; simp only [uf] at e1 e2; cases e1; cases e2; rfl
   | cons x xs ihx=>
    intro ds ds' es b b' h1 h2 e1 e2
    cases h1 with
    | cons a1 t1=>
     cases h2 with
     | cons a2 t2=>
      rename_i d ds d' ds'
      cases es with
      | nil=>simp only [uf] at e1 e2; cases e1; cases e2; rfl
      | cons e es=>
       unfold uf at e1 e2
       cases q:eqN n d e with
       | none=>rw [q] at e1; simp at e1
       | some k=>
        cases q2:eqN n d' e with
        | none=>rw [q2] at e2; simp at e2
        | some k'=>
         cases q3:uf (eqN n) ds es with
         | none=>rw [q,q3] at e1; simp at e1
         | some k3=>
          cases q4:uf (eqN n) ds' es with
          | none=>rw [q2,q4] at e2; simp at e2
          | some k4=>
           rw [q,q3] at e1
           rw [q2,q4] at e2
           rw [ih a1 a2 q q2,ihx t1 t2 q3 q4] at e1
           have e1:some (k'&&k4)=some b:=e1
           have e2:some (k'&&k4)=some b':=e2
           rw [e1] at e2
           exact aK.inj e2
  intro v d d' e b b' h1 h2 e1 e2
  cases h1 with
  | tup p1 t1=>
   cases h2 with
   | tup p2 t2=>
    have q:=I.tuple_inj (qV sb p1) (qV sb p2)
    subst q
    have hl:=t1.length.symm.trans t2.length
    cases e with
    | tup es=>
     rename_i ds ds'
     simp only [eqN] at e1 e2
     cases q3:uf (eqN n) ds es with
     | none=>rw [q3] at e1; simp at e1
     | some k3=>
      cases q4:uf (eqN n) ds' es with
      | none=>rw [q4] at e2; simp at e2
      | some k4=>
       rw [q3] at e1
       rw [q4] at e2
       rw [lists t1 t2 q3 q4,hl] at e1
       exact aK.inj (e1.symm.trans e2)
    | _=>simp only [eqN,eqS] at e1 e2 <;> first | (cases e1; cases e2; rfl) | (cases e1; done)
   | lst p2 t2=>exact (notTL p1 p2).elim
   | _=>cases e <;> simp [eqN,eqS] at e2
  | lst p1 t1=>
   cases h2 with
   | lst p2 t2=>
    have q:=I.list_inj (sb.seq p1) (sb.seq p2)
    subst q
    have hl:=t1.length.symm.trans t2.length
    cases e with
    | lst es=>
     rename_i ds ds'
     simp only [eqN] at e1 e2
     rw [hl] at e1
     by_cases z:ds'.length=es.length
     ·rw [if_pos z] at e1 e2
      exact lists t1 t2 e1 e2
     ·rw [if_neg z] at e1 e2
      exact aK.inj (e1.symm.trans e2)
    | _=>simp only [eqN,eqS] at e1 e2 <;> first | (cases e1; cases e2; rfl) | (cases e1; done)
   | tup p2 t2=>exact (notTL p2 p1).elim
   | _=>cases e <;> simp [eqN,eqS] at e2
  | _=>cases h2 <;> cases e <;> simp only [eqN,eqS] at e1 e2 <;> first
   | (cases e1; cases e2; rfl)
   | (cases e1; done)
   | (cases e2; done)
open Classical in
noncomputable def qao (X:Cx) (F:Hp) (n:Nat) (e:D) (u:Value):Bool:=decide (∃ v d,Is X.K F v d/\RelV v u/\eqN n d e=some true)
open Classical in
theorem qcO (I:Inv X pins σ H s) (sb:Same F H) {u:Value} (h:Is X.K F v d) (r:RelV v u) (q:eqN n d e=some b):qao X F n e u=b:=by
 unfold qao
 cases b with
 | true=>exact decide_eq_true ⟨v,d,h,r,q⟩
 | false=>
  refine decide_eq_false ?_
  rintro ⟨w,d',h',r',q'⟩
  have e:=r.inj r'
  subst e
  exact absurd (qcN I sb n h h' q q') (by decide)
noncomputable def VV (n:Nat) (e:D):List D->Option Bool
 | []=>some false
 | d::ds=>(eqN n d e).bind fun a=>(VV n e ds).bind fun b=>some (a||b)
theorem Ze {ds:List D} (h:VV n e (d::ds)=some b):∃ a c,eqN n d e=some a/\VV n e ds=some c/\b=(a||c):=by
 unfold VV at h
 cases q:eqN n d e with
 | none=>rw [q] at h; simp at h
 | some a=>
  cases q2:VV n e ds with
  | none=>rw [q,q2] at h; simp at h
  | some c=>rw [q,q2] at h; exact ⟨a,c,rfl,rfl,(aK.inj h).symm⟩
theorem Zf (I:Inv X pins σ H s) (sb:Same F H):∀ {vs:List V} {ds:List D} {us:List Value} {b:Bool},IsL X.K F vs ds->Vals vs us->VV n e ds=some b->us.any (qao X F n e)=b/\∀ u∈us,∃ v d a,Is X.K F v d/\RelV v u/\eqN n d e=some a/\qao X F n e u=a
 | _,_,_,b,.nil,.nil,h=>⟨by simpa using (aK.inj h),fun u hu=>nomatch hu⟩
 | _,_,_,b,.cons i t,.cons r rs,h=>by
  obtain ⟨a,c,q1,q2,rfl⟩:=Ze h
  obtain ⟨ih1,ih2⟩:=Zf I sb t rs q2
  have e1:=qcO I sb i r q1
  refine ⟨by rw [cG,e1,ih1],fun u hu=>?_⟩
  rcases ac.mp hu with rfl | hu
  ·exact ⟨_,_,a,i,r,q1,e1⟩
  ·exact ih2 u hu
end
noncomputable def inD (x y:D):Out Bool:=match y with
 | .lst ds=>match VV 7 x ds with
  | some b=>.ok b
  | none=>.bad
 | .tup ds=>match VV 7 x ds with
  | some b=>.ok b
  | none=>.bad
 | _=>.bad
noncomputable def qfP (x y:D):Out D:=(inD x y).bind fun b=>.ok (.bl b)
noncomputable def YL (x y:D):Out D:=(inD x y).bind fun b=>.ok (.bl (!b))
theorem TopIs.is {K:Frag} (s:Same F H) (h:TopIs K F H v d):∃ F',Same F F'/\Same F' H/\Is K F' v d:=by
 rcases h with h | ⟨a,rfl,o⟩
 ·exact ⟨F,Same.refl _,s,h⟩
 ·obtain ⟨u,hu⟩:∃ u,H a=some u:=by
   cases q:H a with
   | none=>exact absurd q o.there
   | some u=>exact ⟨u,rfl⟩
  by_cases hF:F a=none
  ·have gr:Same F (upd F a u):=fun b w e=>by rw [qD (qK e hF)]; exact e
   refine ⟨upd F a u,gr,fun b w e=>?_,?_⟩
   ·by_cases q:b=a
    ·subst q; rw [qw] at e; cases e; exact hu
    ·rw [qD q] at e; exact s b w e
   ·cases d with
    | lst ds=>obtain ⟨xs,e,t⟩:=o; rw [hu] at e; cases e; exact .lst (.inl (.inl qw)) (t.mono gr)
    | dct ds=>obtain ⟨xs,e,t⟩:=o; rw [hu] at e; cases e; exact .dct qw (t.mono gr)
    | ins C fs=>obtain ⟨dx,xs,e,t⟩:=o; rw [hu] at e; cases e; exact .ins qw (t.mono gr)
    | at_ b ds=>obtain ⟨eb,xs,e,t⟩:=o; rw [hu] at e; cases e; subst eb; exact .at_ (.inl (.inl qw)) (t.mono gr)
    | _=>exact o.elim
  ·obtain ⟨w,hw⟩:∃ w,F a=some w:=by
    cases q:F a with
    | none=>exact absurd q hF
    | some w=>exact ⟨w,rfl⟩
   have e:=s a w hw
   cases d with
   | lst ds=>obtain ⟨xs,e',t⟩:=o; rw [e'] at e; cases e; exact ⟨F,Same.refl _,s,.lst (.inl (.inl hw)) t⟩
   | dct ds=>obtain ⟨xs,e',t⟩:=o; rw [e'] at e; cases e; exact ⟨F,Same.refl _,s,.dct hw t⟩
   | ins C fs=>obtain ⟨dx,xs,e',t⟩:=o; rw [e'] at e; cases e; exact ⟨F,Same.refl _,s,.ins hw t⟩
   | at_ b ds=>obtain ⟨eb,xs,e',t⟩:=o; rw [e'] at e; cases e; subst eb; exact ⟨F,Same.refl _,s,.at_ (.inl (.inl hw)) t⟩
   | _=>exact o.elim
section
variable {C:Ct}
theorem UA {A:Around} {y x:V} {dx:D} {ds:List D} {b:Bool} {u v:Value} {a:Addr} {us:List Value} {xs:List V} (I:Inv X pins σ H s) (hu:A.units+64 < cLine) (sb:Same F H) (ix:Is X.K F x dx) (rx:RelV x v)
  (il:IsL X.K F xs ds) (r:Vals xs us) (h:VV 7 dx ds=some b):us.any (qao X F 7 dx)=b/\∀ w,w∈us.toArray->EqAt A.in1 s w v (qao X F 7 dx w):=by
 obtain ⟨h1,h2⟩:=Zf I sb il r h
 refine ⟨h1,fun w hw=>?_⟩
 obtain ⟨vv,d,k,i1,r1,q,e⟩:=h2 w (by simpa using hw)
 rw [e]
 exact Zd I sb 7 (by show A.units+1+7 < cLine; omega) i1 ix r1 rx q
theorem qgz (hK:C.K=X.K) (hu:X.A.units+64 < cLine):OpD X C .sh (compareOp .In) qfP:=by
 intro pins s σ H x y v u Q I rx ry h
 obtain ⟨F,dx,dy,sb,tx,ty,po⟩:=h
 rw [hK] at tx ty
 unfold qfP inD at po
 obtain ⟨F',g',sb',ix⟩:=tx.is sb
 cases dy with
 | lst ds=>
  cases e:VV 7 dx ds with
  | none=>simp only [e] at po; exact po.elim
  | some b=>
   simp only [e] at po
   obtain ⟨a,xs,rfl,p,il⟩:=ty.lst sb
   cases ry
   obtain ⟨us,r,pl,_⟩:=I.list p
   obtain ⟨h1,h2⟩:=UA (A:=X.A) (y:=.non) (a:=a) (u:=.none) I hu sb' ix rx (il.mono g') r e
   refine in_listAt (qao X F' 7 dx) pl.isList h2 ⟨.bl b,H,I,by show _=_; rw [<-h1]; simp,po _ F H sb .refl (.bl _)⟩
 | tup ds=>
  cases e:VV 7 dx ds with
  | none=>simp only [e] at po; exact po.elim
  | some b=>
   simp only [e] at po
   obtain ⟨a,xs,rfl,p,il⟩:=ty.tup sb
   cases ry
   obtain ⟨us,r,pl,_⟩:=I.tuple p
   obtain ⟨h1,h2⟩:=UA (A:=X.A) (y:=.non) (a:=a) (u:=.none) I hu sb' ix rx (il.mono g') r e
   refine in_tupleAt (qao X F' 7 dx) pl h2 ⟨.bl b,H,I,by show _=_; rw [<-h1]; simp,po _ F H sb .refl (.bl _)⟩
 | _=>exact po.elim
theorem qaP (hK:C.K=X.K) (hu:X.A.units+64 < cLine):OpD X C .sh (compareOp .NotIn) YL:=by
 intro pins s σ H x y v u Q I rx ry h
 obtain ⟨F,dx,dy,sb,tx,ty,po⟩:=h
 rw [hK] at tx ty
 unfold YL inD at po
 obtain ⟨F',g',sb',ix⟩:=tx.is sb
 cases dy with
 | lst ds=>
  cases e:VV 7 dx ds with
  | none=>simp only [e] at po; exact po.elim
  | some b=>
   simp only [e] at po
   obtain ⟨a,xs,rfl,p,il⟩:=ty.lst sb
   cases ry
   obtain ⟨us,r,pl,_⟩:=I.list p
   obtain ⟨h1,h2⟩:=UA (A:=X.A) (y:=.non) (a:=a) (u:=.none) I hu sb' ix rx (il.mono g') r e
   refine notIn_listAt (qao X F' 7 dx) pl.isList h2 ⟨.bl (!b),H,I,by show _=_; rw [<-h1]; simp,po _ F H sb .refl (.bl _)⟩
 | tup ds=>
  cases e:VV 7 dx ds with
  | none=>simp only [e] at po; exact po.elim
  | some b=>
   simp only [e] at po
   obtain ⟨a,xs,rfl,p,il⟩:=ty.tup sb
   cases ry
   obtain ⟨us,r,pl,_⟩:=I.tuple p
   obtain ⟨h1,h2⟩:=UA (A:=X.A) (y:=.non) (a:=a) (u:=.none) I hu sb' ix rx (il.mono g') r e
   refine notIn_tupleAt (qao X F' 7 dx) pl h2 ⟨.bl (!b),H,I,by show _=_; rw [<-h1]; simp,po _ F H sb .refl (.bl _)⟩
 | _=>exact po.elim
end
end L2.D2
namespace L2.D2
open PySem PySem.Spec PyProof.Rows
def PoT (C:Ct) (own:List Nat) (σ:St) (F H:Hp) (r:Out (Bool×Sl)) (Q:Bool->Hp->Prop):Prop:=match r with
 | .ok (b,ρ')=>∀ F' H',Rep C.K own F' H' σ ρ'->Chg (OA own σ) F H F' H'->Q b H'
 | .exc c ρ'=>∀ F' H',Same F' H'->Xv C.K C.ox F' H' σ ρ'->Chg (OA own σ) F H F' H'->C.E (C.cv c) none H'
 | .bad=>False
def tT (C:Ct) (own:List Nat) (f:Sl->Out (Bool×Sl)):TT:=fun σ H Q=>∃ F ρ,Rep C.K own F H σ ρ/\PoT C own σ F H (f ρ) Q
variable {C:Ct} {own:List Nat} {σ:St} {F H F1 H1:Hp} {Q:Bool->Hp->Prop}
theorem PoT.shift {r:Out (Bool×Sl)} (h:PoT C own σ F H r Q) (c:Chg (OA own σ) F H F1 H1):PoT C own σ F1 H1 r Q:=by
 cases r with
 | ok p=>exact fun F' H' rp c'=>h F' H' rp (c.trans' c')
 | exc x=>exact fun F' H' s io c'=>h F' H' s io (c.trans' c')
 | bad=>exact h.elim
variable {o:Out (D×Sl)}
theorem PoT.bindV {ma:Mo} {k:D×Sl->Out (Bool×Sl)} {R:VK} (hp:PoT C own σ F H (o.bind k) Q)
  (h:∀ v F1 H1 d ρ1,Rep C.K own F1 H1 σ ρ1->Chg (OA own σ) F H F1 H1->MoIs C.K ma H F1 H1 v d->PoT C own σ F1 H1 (k (d,ρ1)) Q->R v H1):Po C own ma σ F H o R:=by
 cases o with
 | ok p=>
  obtain ⟨d,ρ1⟩:=p
  exact fun v F1 H1 rp c mo=>h v F1 H1 d ρ1 rp c mo (PoT.shift (show PoT C own σ F H (k (d,ρ1)) Q from hp) c)
 | exc x=>exact hp
 | bad=>exact hp.elim
theorem PoT.bindT {o:Out (Bool×Sl)} {k:Bool×Sl->Out (Bool×Sl)} {R:Bool->Hp->Prop} (hp:PoT C own σ F H (o.bind k) Q)
  (h:∀ F1 H1 b ρ1,Rep C.K own F1 H1 σ ρ1->Chg (OA own σ) F H F1 H1->PoT C own σ F1 H1 (k (b,ρ1)) Q->R b H1):PoT C own σ F H o R:=by
 cases o with
 | ok p=>
  obtain ⟨d,ρ1⟩:=p
  exact fun F1 H1 rp c=>h F1 H1 d ρ1 rp c (PoT.shift (show PoT C own σ F H (k (d,ρ1)) Q from hp) c)
 | exc x=>exact hp
 | bad=>exact hp.elim
variable {m:Mo}
theorem Po.bindT {o:Out (Bool×Sl)} {k:Bool×Sl->Out (D×Sl)} {Q:VK} {R:Bool->Hp->Prop} (hp:Po C own m σ F H (o.bind k) Q)
  (h:∀ F1 H1 b ρ1,Rep C.K own F1 H1 σ ρ1->Chg (OA own σ) F H F1 H1->Po C own m σ F1 H1 (k (b,ρ1)) Q->R b H1):PoT C own σ F H o R:=by
 cases o with
 | ok p=>
  obtain ⟨d,ρ1⟩:=p
  exact fun F1 H1 rp c=>h F1 H1 d ρ1 rp c (Po.shift (show Po C own m σ F H (k (d,ρ1)) Q from hp) c)
 | exc x=>exact hp
 | bad=>exact hp.elim
noncomputable def wm:D->Out Bool
 | .non=>.ok false
 | .bl b=>.ok b
 | .int i=>.ok (i != 0)
 | .str x=>.ok ((x.length:Int) != 0)
 | .tup xs=>.ok (!xs.isEmpty)
 | .lst xs=>.ok (!xs.isEmpty)
 | .dct xs=>.ok (!xs.isEmpty)
 | .raw _=>.bad
 | .xcp _=>.bad
 | .ins _ _=>.bad
 | .at_ _ _=>.bad
noncomputable def xZ (f:Sl->Out (D×Sl)):Sl->Out (Bool×Sl):=fun ρ=>(f ρ).bind fun p=>(wm p.1).bind fun b=>.ok (b,p.2)
variable {K:Frag} {vs:List V} {ds:List D}
theorem IsL.isEmpty (h:IsL K F vs ds):vs.isEmpty=ds.isEmpty:=by cases h <;> rfl
theorem IsK.isEmpty {vs:List (Key×V)} {ds:List (Key×D)} (h:IsK K F vs ds):vs.isEmpty=ds.isEmpty:=by cases h <;> rfl
variable {v:V} {d:D}
theorem qcP {b:Bool} (s:Same F H) (h:TopIs K F H v d) (e:wm d=.ok b):qgo K v H b:=by
 cases d with
 | non=>obtain rfl:=h.non; cases e; rfl
 | bl x=>obtain rfl:=h.bl; cases e; rfl
 | int x=>obtain rfl:=h.int; cases e; rfl
 | str x=>obtain ⟨rfl,q⟩:=h.str; cases e; exact ⟨q,rfl⟩
 | tup x=>obtain ⟨a,xs,rfl,p,t⟩:=h.tup s; cases e; exact .inr (.inl ⟨xs,p,by rw [t.isEmpty]⟩)
 | lst x=>obtain ⟨a,xs,rfl,p,t⟩:=h.lst s; cases e; exact .inl ⟨xs,p,by rw [t.isEmpty]⟩
 | dct x=>obtain ⟨a,xs,rfl,p,t⟩:=h.dct s; cases e; exact .inr (.inr ⟨xs,p,by rw [t.isEmpty]⟩)
 | raw x=>cases e
 | xcp x=>cases e
 | ins x y=>cases e
 | at_ x y=>cases e
noncomputable def jl (f:Sl->Out (D×Sl)):Sl->Out (Bool×Sl):=fun ρ=>(f ρ).bind fun p=>match p.1 with
 | .bl b=>.ok (b,p.2)
 | _=>.bad
variable {X:Cx} {c e:Expr} {f fa:Sl->Out (D×Sl)} {ft:Sl->Out (Bool×Sl)} {ma mb:Mo} {pos:Pos} {op op':CmpOp} {ρ:Sl} {g':D->D->Out D}
section
variable {a b:Expr} {fb fc:Sl->Out (D×Sl)} {fu:Sl->Out (Bool×Sl)} {mc:Mo} {rest:List Expr}
theorem jp (hK:C.K=X.K) (h:PE X e (tE C own m f)) (he:∀ whole,isTrue e X.env whole=(do let v <-whole; standAt e.pos; holding [v] (truthy v))):PT X e (tT C own (xZ f)):=by
 refine qaL (qaC h he) fun σ H Q ⟨F,ρ,rp,h⟩=>⟨F,ρ,rp,PoT.bindV h fun v F1 H1 d ρ1 rp1 c1 mo1 h1=>?_⟩
 cases q:wm d with
 | ok k=>
  have h1:PoT C own σ F1 H1 ((wm d).bind fun b=>.ok (b,ρ1)) Q:=h1
  rw [q] at h1
  exact ⟨k,by rw [<-hK]; exact qcP rp1.sub mo1.top q,h1 F1 H1 rp1 .refl⟩
 | exc x=>
  have h1:PoT C own σ F1 H1 ((wm d).bind fun b=>.ok (b,ρ1)) Q:=h1
  cases d <;> cases q
 | bad=>
  have h1:PoT C own σ F1 H1 ((wm d).bind fun b=>.ok (b,ρ1)) Q:=h1
  rw [q] at h1
  exact h1.elim
theorem Zg (h:tT C own (jl f) σ H Q):tE C own .sh f σ H fun x H'=>∃ k,x=.bl k/\Q k H':=by
 obtain ⟨F,ρ,rp,h⟩:=h
 refine ⟨F,ρ,rp,PoT.bindV h fun v F1 H1 d ρ1 rp1 c1 mo1 h1=>?_⟩
 cases d with
 | bl k=>
  have mo1:Is C.K F1 v (.bl k):=mo1
  cases mo1
  exact ⟨k,rfl,h1 F1 H1 rp1 .refl⟩
 | _=>exact h1.elim
theorem qP {g:D->D->Out D} (ho:OpD X C .sh (compareOp op) g) (ha:PE X a (tE C own ma fa)) (hb:PE X b (tE C own mb fb)) (hma:ma≠.any:=by decide)
  (hk:behindInMarks op b=false:=by first | exact qb0 _ | with_unfolding_all rfl):PT X (.Compare a [op] [b] pos) (tT C own (jl (d2 g fa fb))):=by
 refine qaL (qcC ho ha hb hk) fun σ H Q h=>?_
 exact KG hma (Zg h)
noncomputable def QD (ft:Sl->Out (Bool×Sl)):Sl->Out (Bool×Sl):=fun ρ=>(ft ρ).bind fun p=>.ok (!p.1,p.2)
theorem jy (h:PT X a (tT C own ft)):PT X (.UnaryOp .Not a pos) (tT C own (QD ft)):=by
 refine qaL (qd4 h) fun σ H Q ⟨F,ρ,rp,h⟩=>⟨F,ρ,rp,PoT.bindT h fun F1 H1 b ρ1 rp1 c1 h1=>h1 F1 H1 rp1 .refl⟩
theorem qeC {e:Expr} {t t':TT} (h:PW X e t) (i:∀ σ H Q,t' σ H Q->t σ H Q):PW X e t':=⟨fun wh pins s σ H Q I hw=>h wh pins s σ H Q I (i σ H Q hw)⟩
noncomputable def qcQ (ft fu:Sl->Out (Bool×Sl)):Sl->Out (Bool×Sl):=fun ρ=>(ft ρ).bind fun p=>if p.1=true then fu p.2 else .ok (false,p.2)
noncomputable def dOr (ft fu:Sl->Out (Bool×Sl)):Sl->Out (Bool×Sl):=fun ρ=>(ft ρ).bind fun p=>if p.1=true then .ok (true,p.2) else fu p.2
theorem kK {op} (h:PT X a (tT C own ft)):PW X (.BoolOp op [a] pos) (tT C own ft):=by
 cases op
 ·exact qcu h
 ·exact qd2 h
theorem Zh (ha:PT X a (tT C own ft)) (hb:PW X (.BoolOp .And (b::rest) pos) (tT C own fu)):PW X (.BoolOp .And (a::b::rest) pos) (tT C own (qcQ ft fu)):=by
 refine qeC (qd3 ha hb) fun σ H Q ⟨F,ρ,rp,h⟩=>⟨F,ρ,rp,PoT.bindT h fun F1 H1 k ρ1 rp1 c1 h1=>?_⟩
 cases k with
 | true=>exact ⟨F1,ρ1,rp1,h1⟩
 | false=>exact h1 F1 H1 rp1 .refl
theorem yc (ha:PT X a (tT C own ft)) (hb:PW X (.BoolOp .Or (b::rest) pos) (tT C own fu)):PW X (.BoolOp .Or (a::b::rest) pos) (tT C own (dOr ft fu)):=by
 refine qeC (qf9 ha hb) fun σ H Q ⟨F,ρ,rp,h⟩=>⟨F,ρ,rp,PoT.bindT h fun F1 H1 k ρ1 rp1 c1 h1=>?_⟩
 cases k with
 | true=>exact h1 F1 H1 rp1 .refl
 | false=>exact ⟨F1,ρ1,rp1,h1⟩
noncomputable def KJ (fa fb:Sl->Out (D×Sl)):Sl->Out (D×Sl):=fun ρ=>(fa ρ).bind fun p=>match p.1 with
 | .bl true=>fb p.2
 | .bl false=>.ok (.bl false,p.2)
 | _=>.bad
noncomputable def qg6 (fa fb:Sl->Out (D×Sl)):Sl->Out (D×Sl):=fun ρ=>(fa ρ).bind fun p=>match p.1 with
 | .bl true=>.ok (.bl true,p.2)
 | .bl false=>fb p.2
 | _=>.bad
theorem UB {op} (h:PE X a (tE C own m f)):PE X (.BoolOp op [a] pos) (tE C own m f):=qd5 h
theorem KK (ha:PE X a (tE C own .sh fa)) (hb:PE X (.BoolOp .And (b::rest) pos) (tE C own .sh fb)):PE X (.BoolOp .And (a::b::rest) pos) (tE C own .sh (KJ fa fb)):=by
 refine jJ (qd6 ha hb) fun σ H Q ⟨F,ρ,rp,h⟩=>⟨F,ρ,rp,Po.bind h fun v F1 H1 d ρ1 rp1 c1 mo1 h1=>?_⟩
 cases d with
 | bl k=>
  have mo1:Is C.K F1 v (.bl k):=mo1
  cases mo1
  refine ⟨k,rfl,?_⟩
  cases k with
  | true=>exact ⟨F1,ρ1,rp1,h1⟩
  | false=>exact h1 _ F1 H1 rp1 .refl (.bl _)
 | _=>exact h1.elim
noncomputable def dIf (ft:Sl->Out (Bool×Sl)) (fa fb:Sl->Out (D×Sl)):Sl->Out (D×Sl):=fun ρ=>(ft ρ).bind fun p=>if p.1=true then fa p.2 else fb p.2
theorem Zi {t:Expr} (ht:PT X t (tT C own ft)) (ha:PE X a (tE C own ma fa)) (hb:PE X b (tE C own mb fb)) (h1:ma≠.any:=by decide) (h2:mb≠.any:=by decide):PE X (.IfExp t a b pos) (tE C own .sh (dIf ft fa fb)):=by
 refine jJ (qau ht (yk ha h1) (yk hb h2)) fun σ H Q ⟨F,ρ,rp,h⟩=>⟨F,ρ,rp,Po.bindT h fun F1 H1 k ρ1 rp1 c1 h1=>?_⟩
 cases k with
 | true=>exact ⟨F1,ρ1,rp1,h1⟩
 | false=>exact ⟨F1,ρ1,rp1,h1⟩
noncomputable def yC (g g':D->D->Out D) (fa fb fc:Sl->Out (D×Sl)):Sl->Out (D×Sl):=fun ρ=>(fa ρ).bind fun p=>(fb p.2).bind fun q=>(g p.1 q.1).plain.bind fun z=>match z with
 | .bl true=>(fc q.2).bind fun r=>(g' q.1 r.1).plain.bind fun d=>.ok (d,r.2)
 | .bl false=>.ok (.bl false,q.2)
 | _=>.bad
theorem PoV.bind {o:Out D} {k:D->Out (D×Sl)} {Q R:VK} (rp:Rep C.K own F H σ ρ) (h:Po C own m σ F H (o.plain.bind k) Q)
  (hk:∀ v F1 H1 d,Rep C.K own F1 H1 σ ρ->Chg No F H F1 H1->MoIs C.K ma H F1 H1 v d->Po C own m σ F1 H1 (k d) Q->R v H1):PoV C ma F H o R:=by
 cases o with
 | ok d=>exact fun v F1 H1 s c mo=>hk v F1 H1 d (rp.grow c s) c mo (Po.shift (show Po C own m σ F H (k d) Q from h) c.ofNo)
 | exc c=>exact h.elim
 | bad=>exact h.elim
theorem UC {g:D->D->Out D} {Q:VK} (hma:ma≠.any) (hmb:mb≠.any) (h:tE C own .sh (yC g g' fa fb fc) σ H Q) :
  XI (fun x y H Q=>∃ F dx dy,Same F H/\TopIs C.K F H x dx/\TopIs C.K F H y dy/\PoV C .sh F H (g dx dy) Q) (fun x y H Q=>∃ F dx dy,Same F H/\TopIs C.K F H x dx/\TopIs C.K F H y dy/\PoV C .sh F H (g' dx dy) Q)
   (tE C own ma fa) (tE C own mb fb) (tE C own mc fc) σ H Q:=by
 obtain ⟨F,ρ,rp,h⟩:=h
 refine ⟨F,ρ,rp,Po.bind h fun v F1 H1 d ρ1 rp1 c1 mo1 h1=>⟨F1,ρ1,rp1,Po.bind h1 fun w F2 H2 e ρ2 rp2 c2 mo2 h2=>?_⟩⟩
 have oa:∀ x,OA own σ x->H x≠none:=fun x z=>(rp.OA_there z).1
 have oa1:∀ x,OA own σ x->H1 x≠none:=fun x z=>(rp1.OA_there z).1
 refine ⟨F2,d,e,rp2.sub,(mo1.grow hma c2 oa).top,mo2.top,PoV.bind (m:=.sh) rp2 h2 fun z F3 H3 dz rp3 c3 mo3 h3=>?_⟩
 cases dz with
 | bl k=>
  have mo3:Is C.K F3 z (.bl k):=mo3
  cases mo3
  refine ⟨k,rfl,?_⟩
  cases k with
  | true=>
   refine ⟨F3,ρ2,rp3,Po.bind h3 fun w' F4 H4 r ρ4 rp4 c4 mo4 h4=>?_⟩
   exact ⟨F4,e,r,rp4.sub,((mo2.grow hmb (c3.ofNo) oa1).grow hmb c4 oa1).top,mo4.top,PoV.of rp4 h4⟩
  | false=>exact h3 _ F3 H3 rp3 .refl (.bl _)
 | _=>exact h3.elim
theorem UD {g:D->D->Out D} (ho:OpD X C .sh (compareOp op) g) (ho':OpD X C .sh (compareOp op') g') (ha:PE X a (tE C own ma fa)) (hb:PE X b (tE C own mb fb)) (hc:PE X c (tE C own mc fc)) (hma:ma≠.any:=by decide) (hmb:mb≠.any:=by decide)
  (hm:lastMarks [op,op'] [b,c]=false:=by with_unfolding_all rfl):PE X (.Compare a [op,op'] [b,c] pos) (tE C own .sh (yC g g' fa fb fc)):=jJ (qaA ho ho' ha hb hc hm) fun _ _ _ h=>UC hma hmb h
theorem KL {g:D->D->Out D} (ho:OpD X C .sh (compareOp op) g) (ho':OpD X C .sh (compareOp op') g') (ha:PE X a (tE C own ma fa)) (hb:PE X b (tE C own mb fb)) (hc:PE X c (tE C own mc fc)) (hma:ma≠.any:=by decide) (hmb:mb≠.any:=by decide)
  (hm:lastMarks [op,op'] [b,c]=false:=by with_unfolding_all rfl):PT X (.Compare a [op,op'] [b,c] pos) (tT C own (jl (yC g g' fa fb fc))):=qaL (qaB ho ho' ha hb hc hm) fun _ _ _ h=>UC hma hmb (Zg h)
theorem Zj:OpR X (compareOp .LtE) (fun x y H Q=>∃ i j,x=.str i/\y=.str j/\Q (.bl (!yl j i)) H):=by
 intro pins s σ H x y v u Q I rx ry h
 obtain ⟨i,j,rfl,rfl,q⟩:=h
 obtain ⟨t,rfl⟩:=rx
 obtain ⟨t',rfl⟩:=ry
 exact PySem.P.le_str (XG I q (by simp [yl]))
noncomputable def leD:D->D->Out D
 | .int i,.int j=>.ok (.bl (decide (i<=j)))
 | .str x,.str y=>.ok (.bl (!yl y x))
 | _,_=>.bad
theorem KM:OpD X C .sh (compareOp .LtE) leD:=by
 intro pins s σ H x y v u Q I rx ry h
 obtain ⟨F,dx,dy,sb,tx,ty,po⟩:=h
 cases dx <;> try exact po.elim
 ·cases dy <;> try exact po.elim
  obtain rfl:=tx.int
  obtain rfl:=ty.int
  exact qgl pins s σ H _ _ v u Q I rx ry ⟨_,_,rfl,rfl,po _ F H sb .refl (.bl _)⟩
 ·cases dy <;> try exact po.elim
  obtain ⟨rfl,_⟩:=tx.str
  obtain ⟨rfl,_⟩:=ty.str
  exact Zj pins s σ H _ _ v u Q I rx ry ⟨_,_,rfl,rfl,po _ F H sb .refl (.bl _)⟩
noncomputable def gtD:D->D->Out D:=wZ fun i j=>.ok (.bl (decide (j < i)))
theorem qgA:OpD X C .sh (compareOp .Gt) gtD:=Wl qgm fun _ _ _=>.bl _
noncomputable def geD:D->D->Out D:=wZ fun i j=>.ok (.bl (decide (j<=i)))
theorem qeD:OpD X C .sh (compareOp .GtE) geD:=Wl qgn fun _ _ _=>.bl _
noncomputable def qaQ:D->D->Out D
 | .non,.non=>.ok (.bl false)
 | .raw _,.non=>.bad
 | _,.non=>.ok (.bl true)
 | _,_=>.bad
theorem TopIs.notN (h:TopIs K F H v d) (h1:d≠.non) (h2:∀ u,d≠.raw u):v≠.non:=by
 rintro rfl
 rcases h with h | ⟨a,e,_⟩
 ·cases h
  ·exact h1 rfl
  ·exact h2 _ rfl
 ·cases e
theorem qcR:OpD X C .sh (compareOp .IsNot) qaQ:=by
 intro pins s σ H x y v u Q I rx ry h
 obtain ⟨F,dx,dy,sb,tx,ty,po⟩:=h
 have hy:dy=.non:=by cases dy <;> first | rfl | (cases dx <;> exact po.elim)
 subst hy
 obtain rfl:=ty.non
 refine qcA pins s σ H x .non v u Q I rx ry ⟨rfl,?_⟩
 cases dx with
 | non=>obtain rfl:=tx.non; exact po _ F H sb .refl (.bl _)
 | raw _=>exact po.elim
 | _=>rw [decide_eq_false (tx.notN (by intro z; cases z) (by intro _ z; cases z))]; exact po _ F H sb .refl (.bl _)
end
inductive Fl where
 | nx | rt (d:D) | bk | ct
structure Nx (C:Ct) (own own':List Nat) (σ:St) (F H:Hp) (ρ':Sl) (σ':St) (F' H':Hp):Prop where
 rep:Rep C.K own' F' H' σ' ρ'
 chg:Chg (OA own σ) F H F' H'
 oa:∀ b,OA own' σ' b->OA own σ b\/H b=none
 io:∀ i∈C.io,σ'[i]?=σ[i]?
def PoS (C:Ct) (own own':List Nat) (σ:St) (F H:Hp) (r:Out (Fl×Sl)) (D:Ends):Prop:=match r with
 | .ok (.nx,ρ')=>∀ σ' F' H',Nx C own own' σ F H ρ' σ' F' H'->D.nx σ' H'
 | .ok (.rt d,ρ')=>∀ v σ' F' H',Same F' H'->Xv C.K C.io F' H' σ' ρ'->Chg (OA own σ) F H F' H'->(∀ i∈C.io,σ'[i]?=σ[i]?)->MoIs C.K C.mr H F' H' v d->D.rt v H'
 | .ok (.bk,ρ')=>∀ σ' F' H',Nx C own C.ol σ F H ρ' σ' F' H'->D.bk σ' H'
 | .ok (.ct,ρ')=>∀ σ' F' H',Nx C own C.ol σ F H ρ' σ' F' H'->D.ct σ' H'
 | .exc c ρ'=>∀ F' H',Same F' H'->Xv C.K C.ox F' H' σ ρ'->Chg (OA own σ) F H F' H'->C.E (C.cv c) none H'
 | .bad=>False
def tSt (C:Ct) (own own':List Nat) (f:Sl->Out (Fl×Sl)):TS:=fun D σ H=>∃ F ρ,Rep C.K own F H σ ρ/\PoS C own own' σ F H (f ρ) D
variable {o1 o2 o3:List Nat} {σ1:St} {ρ1:Sl}
theorem Nx.then {σ2:St} {F2 H2:Hp} {ρ2:Sl} (a:Nx C o1 o2 σ F H ρ1 σ1 F1 H1) (b:Nx C o2 o3 σ1 F1 H1 ρ2 σ2 F2 H2):Nx C o1 o3 σ F H ρ2 σ2 F2 H2 where
 rep:=b.rep
 chg:=a.chg.trans b.chg a.oa
 oa:=fun x h=>by
  rcases b.oa x h with z | z
  ·exact a.oa x z
  ·refine .inr ?_
   cases q:H x with
   | none=>rfl
   | some o=>exact absurd z (a.chg.stay x (by rw [q]; simp))
 io:=fun i hi=>(b.io i hi).trans (a.io i hi)
theorem PoS.shift {r:Out (Fl×Sl)} {D:Ends} (h:PoS C o1 o3 σ F H r D) (a:Nx C o1 o2 σ F H ρ1 σ1 F1 H1):PoS C o2 o3 σ1 F1 H1 r D:=by
 cases r with
 | ok p=>
  obtain ⟨fl,ρ'⟩:=p
  cases fl with
  | nx=>exact fun σ' F' H' n=>h σ' F' H' (a.then n)
  | rt d=>exact fun v σ' F' H' s io c e mo=>h v σ' F' H' s io (a.chg.trans c a.oa) (fun i hi=>(e i hi).trans (a.io i hi)) (MoIs.back (Ha:=H1) a.chg mo)
  | bk=>exact fun σ' F' H' n=>h σ' F' H' (a.then n)
  | ct=>exact fun σ' F' H' n=>h σ' F' H' (a.then n)
 | exc c=>exact fun F' H' s io c'=>h F' H' s (fun i hi=>by
   obtain ⟨d,b,e1,e2,e3⟩:=io i hi
   exact ⟨d,b,e1,by rw [<-a.io i (C.oxs i hi)]; exact e2,e3⟩) (a.chg.trans c' a.oa)
 | bad=>exact h.elim
theorem Nx.ofE (r:Rep C.K own F1 H1 σ ρ1) (c:Chg (OA own σ) F H F1 H1):Nx C own own σ F H ρ1 σ F1 H1:=⟨r,c,fun _ h=>.inl h,fun _ _=>rfl⟩
variable {own':List Nat}
theorem PoS.bindE {m:Mo} {k:D×Sl->Out (Fl×Sl)} {D:Ends} {R:VK} (hp:PoS C own own' σ F H (o.bind k) D)
  (h:∀ v F1 H1 d ρ1,Rep C.K own F1 H1 σ ρ1->Chg (OA own σ) F H F1 H1->MoIs C.K m H F1 H1 v d->PoS C own own' σ F1 H1 (k (d,ρ1)) D->R v H1):Po C own m σ F H o R:=by
 cases o with
 | ok p=>
  obtain ⟨d,ρ1⟩:=p
  exact fun v F1 H1 rp c mo=>h v F1 H1 d ρ1 rp c mo (PoS.shift (show PoS C own own' σ F H (k (d,ρ1)) D from hp) (.ofE rp c))
 | exc x=>exact hp
 | bad=>exact hp.elim
theorem PoS.bindT {o:Out (Bool×Sl)} {k:Bool×Sl->Out (Fl×Sl)} {D:Ends} {R:Bool->Hp->Prop} (hp:PoS C own own' σ F H (o.bind k) D)
  (h:∀ F1 H1 b ρ1,Rep C.K own F1 H1 σ ρ1->Chg (OA own σ) F H F1 H1->PoS C own own' σ F1 H1 (k (b,ρ1)) D->R b H1):PoT C own σ F H o R:=by
 cases o with
 | ok p=>
  obtain ⟨d,ρ1⟩:=p
  exact fun F1 H1 rp c=>h F1 H1 d ρ1 rp c (PoS.shift (show PoS C own own' σ F H (k (d,ρ1)) D from hp) (.ofE rp c))
 | exc x=>exact hp
 | bad=>exact hp.elim
variable {b a:Addr} {t':TS} {st:Stmt} {fe:Sl->Out (D×Sl)} {i:Nat} {x:Str} {pos':Pos}
section
variable {sts rest:List Stmt} {f g:Sl->Out (Fl×Sl)}
theorem Qp {t:TS} (h:PS X st t) (i:∀ D σ H,t' D σ H->t D σ H):PS X st t':=⟨fun pins s σ H D I hw=>h pins s σ H D I (i D σ H hw)⟩
theorem Zk {t:TS} (h:PSs X sts t) (i:∀ D σ H,t' D σ H->t D σ H):PSs X sts t':=⟨fun pins s σ H D I hw=>h pins s σ H D I (i D σ H hw)⟩
noncomputable def jt:Sl->Out (Fl×Sl):=fun ρ=>.ok (.nx,ρ)
noncomputable def qZ (f g:Sl->Out (Fl×Sl)):Sl->Out (Fl×Sl):=fun ρ=>(f ρ).bind fun p=>match p.1 with
 | .nx=>g p.2
 | fl=>.ok (fl,p.2)
theorem Nx.refl (r:Rep C.K own F H σ ρ):Nx C own own σ F H ρ σ F H:=.ofE r .refl
theorem qM:PSs X [] (tSt C own own jt):=Zk Wc fun D σ H ⟨F,ρ,rp,h⟩=>h σ F H (.refl rp)
theorem qeE {D:Ends} (h:tSt C o1 o3 (qZ f g) D σ H):tSt C o1 o2 f { D with nx:=tSt C o2 o3 g D } σ H:=by
 obtain ⟨F,ρ,rp,h⟩:=h
 refine ⟨F,ρ,rp,?_⟩
 unfold qZ at h
 cases q:f ρ with
 | ok p=>
  rw [q] at h
  obtain ⟨fl,ρ1⟩:=p
  cases fl with
  | nx=>exact fun σ' F' H' n=>⟨F',ρ1,n.rep,PoS.shift (show PoS C o1 o3 σ F H (g ρ1) D from h) n⟩
  | rt d=>exact h
  | bk=>exact h
  | ct=>exact h
 | exc c=>rw [q] at h; exact h
 | bad=>rw [q] at h; exact h.elim
theorem qm (h1:PS X st (tSt C o1 o2 f)) (h2:PSs X rest (tSt C o2 o3 g)):PSs X (st::rest) (tSt C o1 o3 (qZ f g)):=Zk (qav h1 h2) fun D σ H h=>qeE h
theorem qp (h1:PS X st (tSt C o1 o2 f)):PSs X [st] (tSt C o1 o2 f):=qcv h1
theorem Rep.weak {K:Frag} {F H:Hp} {σ:St} {ρ:Sl}:∀ (drop:List Nat) {own own':List Nat},(∀ i,i∈own'↔i∈own/\i∉drop)->Rep K own F H σ ρ->∃ F',Rep K own' F' H σ ρ/\Chg (OA own σ) F H F' H
 | [],own,own',hs,rp=>⟨F,⟨rp.sub,rp.len,fun i d hi=>rp.val i d fun z=>hi ((hs i).mpr ⟨z,by simp⟩),fun i d hi=>rp.ow i d ((hs i).mp hi).1,fun i hi=>rp.opn i ((hs i).mp hi).1,fun i j a hi hj=>rp.dis i j a ((hs i).mp hi).1 ((hs j).mp hj).1⟩,.refl⟩
 | k::r,own,own',hs,rp=>by
  obtain ⟨F1,rp1,c1⟩:=Rep.weak r (own:=own) (own':=own.filter fun i=>decide (i∉r)) (fun i=>by simp) rp
  by_cases hk:k∈own/\k∉r
  ·obtain ⟨d,hd⟩:=rp1.opn k (by simp [hk.1,hk.2])
   obtain ⟨a,h1,h2,h3⟩:=rp1.ow k d (by simp [hk.1,hk.2]) hd
   obtain ⟨u,hu⟩:∃ u,H a=some u:=by
    cases q:H a with
    | none=>exact absurd q h3.there
    | some u=>exact ⟨u,rfl⟩
   have gr:Same F1 (upd F1 a u):=fun b w e=>by rw [qD (qK e h2)]; exact e
   refine ⟨upd F1 a u,⟨fun b w e=>?_,rp1.len,fun i d' hi e=>?_,fun i d' hi e=>?_,fun i hi=>?_,fun i j b hi hj=>?_⟩,?_⟩
   ·by_cases q:b=a
    ·subst q; rw [qw] at e; cases e; exact hu
    ·rw [qD q] at e; exact rp1.sub b w e
   ·by_cases q:i=k
    ·subst q
     rw [hd] at e; cases e
     refine ⟨_,h1,?_⟩
     cases d with
     | lst ds=>obtain ⟨xs,e,t⟩:=h3; rw [hu] at e; cases e; exact .lst (.inl (.inl qw)) (t.mono gr)
     | dct ds=>obtain ⟨xs,e,t⟩:=h3; rw [hu] at e; cases e; exact .dct qw (t.mono gr)
     | ins C fs=>obtain ⟨dx,xs,e,t⟩:=h3; rw [hu] at e; cases e; exact .ins qw (t.mono gr)
     | at_ b ds=>obtain ⟨eb,xs,e,t⟩:=h3; rw [hu] at e; cases e; subst eb; exact .at_ (.inl (.inl qw)) (t.mono gr)
     | _=>exact h3.elim
    ·obtain ⟨v,q1,q2⟩:=rp1.val i d' (fun z=>by simp at z; exact hi ((hs i).mpr ⟨z.1,by simp [q,z.2]⟩)) e
     exact ⟨v,q1,q2.mono gr⟩
   ·have hi':=(hs i).mp hi
    have hik:i≠k:=fun z=>hi'.2 (by simp [z])
    have hir:i∉r:=fun z=>hi'.2 (by simp [z])
    obtain ⟨b,q1,q2,q3⟩:=rp1.ow i d' (by simp [hi'.1,hir]) e
    refine ⟨b,q1,?_,q3.grow gr fun _ z=>z⟩
    have nb:b≠a:=fun z=>by subst z; exact hik (rp1.dis i k b (by simp [hi'.1,hir]) (by simp [hk.1,hk.2]) q1 h1)
    rw [qD nb]; exact q2
   ·have hi':=(hs i).mp hi
    exact rp1.opn i (by simp [hi'.1]; exact fun z=>hi'.2 (by simp [z]))
   ·have hi':=(hs i).mp hi
    have hj':=(hs j).mp hj
    exact rp1.dis i j b (by simp [hi'.1]; exact fun z=>hi'.2 (by simp [z])) (by simp [hj'.1]; exact fun z=>hj'.2 (by simp [z]))
   ·refine ⟨c1.keep,c1.stay,c1.grow.trans gr,fun b hb=>?_⟩
    by_cases q:b=a
    ·exact .inr (.inr ⟨k,hk.1,by rw [q]; exact h1⟩)
    ·rw [qD q] at hb; exact c1.new b hb
  ·refine ⟨F1,⟨rp1.sub,rp1.len,fun i d hi=>rp1.val i d fun z=>?_,fun i d hi=>rp1.ow i d ?_,fun i hi=>rp1.opn i ?_,fun i j a hi hj=>rp1.dis i j a ?_ ?_⟩,c1⟩
   ·simp at z
    refine hi ((hs i).mpr ⟨z.1,?_⟩)
    simp only [ac,not_or]
    exact ⟨fun q=>hk (by subst q; exact z),z.2⟩
   all_goals
    first
     | (have q:=(hs _).mp hi; simp only [dm,decide_eq_true_eq]; exact ⟨q.1,fun z=>q.2 (by simp [z])⟩)
     | (have q:=(hs _).mp hj; simp only [dm,decide_eq_true_eq]; exact ⟨q.1,fun z=>q.2 (by simp [z])⟩)
theorem OA.sub (h:∀ i∈own',i∈own) (q:OA own' σ b):OA own σ b:=let ⟨i,hi,e⟩:=q; ⟨i,h i hi,e⟩
theorem Nx.drop (drop:List Nat) (hs:∀ i,i∈own'↔i∈own/\i∉drop) (rp:Rep C.K own F H σ ρ):∃ F',Nx C own own' σ F H ρ σ F' H:=by
 obtain ⟨F',rp',c⟩:=Rep.weak drop hs rp
 exact ⟨F',rp',c,fun b q=>.inl (OA.sub (fun i hi=>((hs i).mp hi).1) q),fun _ _=>rfl⟩
noncomputable def wX (own drop:List Nat):List Nat:=own.filter fun i=>decide (i∉drop)
theorem jh {own drop:List Nat} (i:Nat):i∈wX own drop↔i∈own/\i∉drop:=by simp [wX]
theorem wq (drop:List Nat) (h:PSs X sts (tSt C (wX own drop) o2 f)):PSs X sts (tSt C own o2 f):=Zk h fun D σ H ⟨F,ρ,rp,h⟩=>by
 obtain ⟨F',n⟩:=Nx.drop (C:=C) drop (fun i=>jh (own:=own) i) rp
 exact ⟨F',ρ,n.rep,h.shift n⟩
noncomputable def sIf (ft:Sl->Out (Bool×Sl)) (f g:Sl->Out (Fl×Sl)):Sl->Out (Fl×Sl):=fun ρ=>(ft ρ).bind fun p=>if p.1=true then f p.2 else g p.2
theorem ji {a b:List Stmt} (hc:PT X c (tT C own ft)) (ha:PSs X a (tSt C own own' f)) (hb:PSs X b (tSt C own own' g)):PS X (.If c a b pos) (tSt C own own' (sIf ft f g)):=by
 refine Qp (qgd hc ha hb) fun D σ H ⟨F,ρ,rp,h⟩=>⟨F,ρ,rp,PoS.bindT h fun F1 H1 k ρ1 rp1 c1 h1=>?_⟩
 cases k with
 | true=>exact ⟨F1,ρ1,rp1,h1⟩
 | false=>exact ⟨F1,ρ1,rp1,h1⟩
noncomputable def vd (fe:Sl->Out (D×Sl)):Sl->Out (Fl×Sl):=fun ρ=>(fe ρ).bind fun p=>.ok (.nx,p.2)
theorem jq (he:PE X e (tE C own m fe)) (hs:swapsWith e none pos.line X.env=pure false:=by rfl):PS X (.Expr e pos) (tSt C own own (vd fe)):=by
 refine Qp (qcw he hs) fun D σ H ⟨F,ρ,rp,h⟩=>⟨F,ρ,rp,PoS.bindE h fun v F1 H1 d ρ1 rp1 c1 mo1 h1=>h1 σ F1 H1 (.refl rp1)⟩
noncomputable def jI (fe:Sl->Out (D×Sl)):Sl->Out (Fl×Sl):=fun ρ=>(fe ρ).bind fun p=>.ok (.rt p.1,p.2)
theorem qcS (he:PE X e (tE C own C.mr fe)) (hio:∀ i∈C.io,i∈own:=by exact vZ rfl):PS X (.Return (some e) pos) (tSt C own own' (jI fe)):=by
 refine Qp (qd7 he) fun D σ H ⟨F,ρ,rp,h⟩=>⟨F,ρ,rp,?_⟩
 unfold jI at h
 cases q:fe ρ with
 | ok p=>
  rw [q] at h
  obtain ⟨d,ρ1⟩:=p
  exact fun v F1 H1 rp1 c1 mo1=>h v σ F1 H1 rp1.sub (rp1.ioIs hio) c1 (fun _ _=>rfl) mo1
 | exc c=>rw [q] at h; exact h
 | bad=>rw [q] at h; exact h.elim
theorem qr (he:PE X e (tE C own m fe)) (hm:m≠.any:=by decide) (hr:C.mr=.sh:=by rfl) (hio:∀ i∈C.io,i∈own:=by exact vZ rfl):PS X (.Return (some e) pos) (tSt C own own' (jI fe)):=qcS (by rw [hr]; exact yk he hm) hio
theorem Rep.put (rp:Rep K own F H σ ρ) (hi:i < ρ.length) (is:Is K F v d):Rep K (wX own [i]) F H (σ.set i (some v)) (ρ.set i (some d)) where
 sub:=rp.sub
 len:=by simp [rp.len]
 val:=fun j d' hj e=>by
  by_cases q:j=i
  ·subst q
   rw [aC hi] at e
   cases e
   exact ⟨v,aC (by rw [rp.len]; exact hi),is⟩
  ·rw [aj (aX q)] at e
   obtain ⟨w,h1,h2⟩:=rp.val j d' (fun z=>hj ((jh j).mpr ⟨z,by simp [q]⟩)) e
   exact ⟨w,by rw [aj (aX q)]; exact h1,h2⟩
 ow:=fun j d' hj e=>by
  have hj':=(jh j).mp hj
  have q:j≠i:=fun z=>hj'.2 (by simp [z])
  rw [aj (aX q)] at e
  obtain ⟨a,h1,h2⟩:=rp.ow j d' hj'.1 e
  exact ⟨a,by rw [aj (aX q)]; exact h1,h2⟩
 opn:=fun j hj=>by
  have hj':=(jh j).mp hj
  have q:j≠i:=fun z=>hj'.2 (by simp [z])
  obtain ⟨d',e⟩:=rp.opn j hj'.1
  exact ⟨d',by rw [aj (aX q)]; exact e⟩
 dis:=fun j k a hj hk e1 e2=>by
  have hj':=(jh j).mp hj
  have hk':=(jh k).mp hk
  rw [aj (fun z=>hj'.2 (by simp [z]))] at e1
  rw [aj (fun z=>hk'.2 (by simp [z]))] at e2
  exact rp.dis j k a hj'.1 hk'.1 e1 e2
theorem OA.put (h:OA (wX own [i]) (σ.set i (some v)) b):OA own σ b:=by
 obtain ⟨j,hj,e⟩:=h
 have hj':=(jh j).mp hj
 rw [aj (fun z=>hj'.2 (by simp [z]))] at e
 exact ⟨j,hj'.1,e⟩
noncomputable def ka (i:Nat) (fe:Sl->Out (D×Sl)):Sl->Out (Fl×Sl):=fun ρ=>(fe ρ).bind fun p=>if i < p.2.length then .ok (.nx,p.2.set i (some p.1)) else .bad
theorem qJ (hN:X.N.Nodup) (hi:X.N[i]?=some x) (hx:Loc X.env.scope x) (he:PE X e (tE C own m fe)) (hm:m≠.any:=by decide) (hio:i∉C.io:=by exact Uv rfl) (hs:swapsWith e (some (.Name x pos')) pos.line X.env=pure false:=by rfl)
  (hf:X.fn x=true\/X.env.scope.names.lookup x=some .local:=by first | exact .inl rfl | exact .inr rfl):PS X (.Assign [.Name x pos'] e pos) (tSt C own (wX own [i]) (ka i fe)):=by
 refine Qp (qbY hN hi hx (yk he hm) hs hf) fun D σ H ⟨F,ρ,rp,h⟩=>⟨F,ρ,rp,PoS.bindE h fun v F1 H1 d ρ1 rp1 c1 mo1 h1=>?_⟩
 by_cases q:i < ρ1.length
 ·have h1:PoS C own (wX own [i]) σ F1 H1 (if i < ρ1.length then .ok (.nx,ρ1.set i (some d)) else .bad) D:=h1
  rw [if_pos q] at h1
  exact h1 _ F1 H1 ⟨rp1.put q mo1,.refl,fun b z=>.inl (OA.put z),fun j hj=>aj fun z=>hio (by rw [z]; exact hj)⟩
 ·have h1:PoS C own (wX own [i]) σ F1 H1 (if i < ρ1.length then .ok (.nx,ρ1.set i (some d)) else .bad) D:=h1
  rw [if_neg q] at h1
  exact h1.elim
theorem Rep.putO (rp:Rep K own F H σ ρ) (hi:i < ρ.length) (hF:F a=none) (nA:¬OA own σ a) (o:OwnIs K F H a d):Rep K (i::wX own [i]) F H (σ.set i (some (.ref a))) (ρ.set i (some d)) where
 sub:=rp.sub
 len:=by simp [rp.len]
 val:=fun j d' hj e=>by
  have q:j≠i:=fun z=>hj (by simp [z])
  rw [aj (aX q)] at e
  obtain ⟨w,h1,h2⟩:=rp.val j d' (fun z=>hj (ae _ ((jh j).mpr ⟨z,by simp [q]⟩))) e
  exact ⟨w,by rw [aj (aX q)]; exact h1,h2⟩
 ow:=fun j d' hj e=>by
  by_cases q:j=i
  ·subst q
   rw [aC hi] at e
   cases e
   exact ⟨a,aC (by rw [rp.len]; exact hi),hF,o⟩
  ·have hj':=(jh j).mp ((ac.mp hj).resolve_left q)
   rw [aj (aX q)] at e
   obtain ⟨b,h1,h2⟩:=rp.ow j d' hj'.1 e
   exact ⟨b,by rw [aj (aX q)]; exact h1,h2⟩
 opn:=fun j hj=>by
  by_cases q:j=i
  ·subst q; exact ⟨d,aC hi⟩
  ·have hj':=(jh j).mp ((ac.mp hj).resolve_left q)
   obtain ⟨d',e⟩:=rp.opn j hj'.1
   exact ⟨d',by rw [aj (aX q)]; exact e⟩
 dis:=fun j k b hj hk e1 e2=>by
  have iσ:i < σ.length:=by rw [rp.len]; exact hi
  by_cases qj:j=i
  ·by_cases qk:k=i
   ·rw [qj,qk]
   ·subst qj
    have hk':=(jh k).mp ((ac.mp hk).resolve_left qk)
    rw [aC iσ] at e1
    cases e1
    rw [aj (aX qk)] at e2
    exact absurd ⟨k,hk'.1,e2⟩ nA
  ·have hj':=(jh j).mp ((ac.mp hj).resolve_left qj)
   by_cases qk:k=i
   ·subst qk
    rw [aC iσ] at e2
    cases e2
    rw [aj (aX qj)] at e1
    exact absurd ⟨j,hj'.1,e1⟩ nA
   ·have hk':=(jh k).mp ((ac.mp hk).resolve_left qk)
    rw [aj (aX qj)] at e1
    rw [aj (aX qk)] at e2
    exact rp.dis j k b hj'.1 hk'.1 e1 e2
theorem kM (hN:X.N.Nodup) (hi:X.N[i]?=some x) (hx:Loc X.env.scope x) (he:PE X e (tE C own .fr fe)) (hio:i∉C.io:=by exact Uv rfl) (hs:swapsWith e (some (.Name x pos')) pos.line X.env=pure false:=by rfl)
  (hf:X.fn x=true\/X.env.scope.names.lookup x=some .local:=by first | exact .inl rfl | exact .inr rfl):PS X (.Assign [.Name x pos'] e pos) (tSt C own (i::wX own [i]) (ka i fe)):=by
 refine Qp (qbY hN hi hx he hs hf) fun D σ H ⟨F,ρ,rp,h⟩=>⟨F,ρ,rp,?_⟩
 unfold ka at h
 cases q:fe ρ with
 | ok p=>
  rw [q] at h
  obtain ⟨d,ρ1⟩:=p
  intro v F1 H1 rp1 c1 mo1
  obtain ⟨a,rfl,h0,hF,o⟩:=mo1
  by_cases z:i < ρ1.length
  ·have h1:PoS C own (i::wX own [i]) σ F H (if i < ρ1.length then .ok (.nx,ρ1.set i (some d)) else .bad) D:=h
   rw [if_pos z] at h1
   refine h1 _ F1 H1 ⟨rp1.putO z hF (fun y=>(rp.OA_there y).1 h0) o,c1,fun b y=>?_,fun j hj=>aj fun y=>hio (by rw [y]; exact hj)⟩
   obtain ⟨j,hj,e⟩:=y
   by_cases qj:j=i
   ·subst qj
    rw [aC (by rw [rp1.len]; exact z)] at e
    cases e
    exact .inr h0
   ·have hj':=(jh j).mp ((ac.mp hj).resolve_left qj)
    rw [aj (aX qj)] at e
    exact .inl ⟨j,hj'.1,e⟩
  ·have h1:PoS C own (i::wX own [i]) σ F H (if i < ρ1.length then .ok (.nx,ρ1.set i (some d)) else .bad) D:=h
   rw [if_neg z] at h1
   exact h1.elim
 | exc c=>rw [q] at h; exact h
 | bad=>rw [q] at h; exact h.elim
end
inductive AK where
 | vl | sl (i:Nat) | fr
 deriving DecidableEq
def ArgV (K:Frag) (H0 F H:Hp) (σ:St):List AK->List V->List D->Prop
 | [],[],[]=>True
 | .vl::as,v::vs,d::ds=>Is K F v d/\ArgV K H0 F H σ as vs ds
 | .sl i::as,v::vs,d::ds=>σ[i]?=some (some v)/\d=.non/\ArgV K H0 F H σ as vs ds
 | .fr::as,v::vs,d::ds=>MoIs K .fr H0 F H v d/\ArgV K H0 F H σ as vs ds
 | _,_,_=>False
variable {H0 F' H':Hp}
theorem ArgV.grow {A:Addr->Prop} (c:Chg A F H F' H') (hA:∀ x,A x->H0 x≠none):∀ {as:List AK} {vs:List V} {ds:List D},ArgV K H0 F H σ as vs ds->ArgV K H0 F' H' σ as vs ds
 | [],[],[],h=>trivial
 | .vl::as,v::vs,d::ds,h=>⟨h.1.mono c.grow,ArgV.grow c hA h.2⟩
 | .sl i::as,v::vs,d::ds,h=>⟨h.1,h.2.1,ArgV.grow c hA h.2.2⟩
 | .fr::as,v::vs,d::ds,h=>⟨h.1.grow (by decide) c hA,ArgV.grow c hA h.2⟩
 | [],_::_,_,h=>h.elim
 | [],[],_::_,h=>h.elim
 | .vl::_,[],_,h=>h.elim
 | .vl::_,_::_,[],h=>h.elim
 | .sl _::_,[],_,h=>h.elim
 | .sl _::_,_::_,[],h=>h.elim
 | .fr::_,[],_,h=>h.elim
 | .fr::_,_::_,[],h=>h.elim
theorem ArgV.back {A:Addr->Prop} {F0:Hp} (c:Chg A F0 H0 F1 H1):∀ {as:List AK} {vs:List V} {ds:List D},ArgV K H1 F H σ as vs ds->ArgV K H0 F H σ as vs ds
 | [],[],[],h=>trivial
 | .vl::as,v::vs,d::ds,h=>⟨h.1,ArgV.back c h.2⟩
 | .sl i::as,v::vs,d::ds,h=>⟨h.1,h.2.1,ArgV.back c h.2.2⟩
 | .fr::as,v::vs,d::ds,h=>⟨MoIs.back (Ha:=H1) c h.1,ArgV.back c h.2⟩
 | [],_::_,_,h=>h.elim
 | [],[],_::_,h=>h.elim
 | .vl::_,[],_,h=>h.elim
 | .vl::_,_::_,[],h=>h.elim
 | .sl _::_,[],_,h=>h.elim
 | .sl _::_,_::_,[],h=>h.elim
 | .fr::_,[],_,h=>h.elim
 | .fr::_,_::_,[],h=>h.elim
def PoA (C:Ct) (own:List Nat) (as:List AK) (σ:St) (F H:Hp) (r:Out (List D×Sl)) (Q:List V->Hp->Prop):Prop:=match r with
 | .ok (ds,ρ')=>∀ vs F' H',Rep C.K own F' H' σ ρ'->Chg (OA own σ) F H F' H'->ArgV C.K H F' H' σ as vs ds->Q vs H'
 | .exc c ρ'=>∀ F' H',Same F' H'->Xv C.K C.ox F' H' σ ρ'->Chg (OA own σ) F H F' H'->C.E (C.cv c) none H'
 | .bad=>False
def tAr (C:Ct) (own:List Nat) (as:List AK) (f:Sl->Out (List D×Sl)):TA:=fun σ H Q=>∃ F ρ,Rep C.K own F H σ ρ/\PoA C own as σ F H (f ρ) Q
variable {as:List AK}
theorem PoA.bindV {ma:Mo} {k:D×Sl->Out (List D×Sl)} {Q:List V->Hp->Prop} {R:VK} (hp:PoA C own as σ F H (o.bind k) Q)
  (h:∀ v F1 H1 d ρ1,Rep C.K own F1 H1 σ ρ1->Chg (OA own σ) F H F1 H1->MoIs C.K ma H F1 H1 v d->PoA C own as σ F H (k (d,ρ1)) Q->R v H1):Po C own ma σ F H o R:=by
 cases o with
 | ok p=>
  obtain ⟨d,ρ1⟩:=p
  exact fun v F1 H1 rp c mo=>h v F1 H1 d ρ1 rp c mo hp
 | exc x=>exact hp
 | bad=>exact hp.elim
theorem Po.bindA {as:List AK} {o:Out (List D×Sl)} {k:List D×Sl->Out (D×Sl)} {Q:VK} {R:List V->Hp->Prop} (hp:Po C own m σ F H (o.bind k) Q)
  (h:∀ vs F1 H1 ds ρ1,Rep C.K own F1 H1 σ ρ1->Chg (OA own σ) F H F1 H1->ArgV C.K H F1 H1 σ as vs ds->Po C own m σ F1 H1 (k (ds,ρ1)) Q->R vs H1):PoA C own as σ F H o R:=by
 cases o with
 | ok p=>
  obtain ⟨d,ρ1⟩:=p
  exact fun vs F1 H1 rp c av=>h vs F1 H1 d ρ1 rp c av (Po.shift (show Po C own m σ F H (k (d,ρ1)) Q from hp) c)
 | exc x=>exact hp
 | bad=>exact hp.elim
noncomputable def qE:Sl->Out (List D×Sl):=fun ρ=>.ok ([],ρ)
noncomputable def qd (fe:Sl->Out (D×Sl)) (fr:Sl->Out (List D×Sl)):Sl->Out (List D×Sl):=fun ρ=>(fe ρ).bind fun p=>(fr p.2).bind fun q=>.ok (p.1::q.1,q.2)
noncomputable def jQ (fr:Sl->Out (List D×Sl)):Sl->Out (List D×Sl):=fun ρ=>(fr ρ).bind fun q=>.ok (D.non::q.1,q.2)
variable {es:List Expr} {p:Addr} {u:HO}
section
variable {fr:Sl->Out (List D×Sl)}
theorem qcT {t t':TA} (h:PA X es t) (i:∀ σ H Q,t' σ H Q->t σ H Q):PA X es t':=⟨fun pos pins s σ H Q I hw=>h pos pins s σ H Q I (i σ H Q hw)⟩
theorem qf:PA X [] (tAr C own [] qE):=qcT jM fun σ H Q ⟨F,ρ,rp,h⟩=>h [] F H rp .refl trivial
theorem KN {a:AK} {Q:List V->Hp->Prop} {v:V} (rp:∀ x,OA own σ x->H x≠none) (rp1:Rep C.K own F1 H1 σ ρ1) (c1:Chg (OA own σ) F H F1 H1) (hp:PoA C own (a::as) σ F H ((fr ρ1).bind fun q=>.ok (d::q.1,q.2)) Q)
  (ha:∀ F2 H2 vs ds,Chg (OA own σ) F1 H1 F2 H2->ArgV C.K H F2 H2 σ as vs ds->ArgV C.K H F2 H2 σ (a::as) (v::vs) (d::ds)):tAr C own as fr σ H1 fun xs H2=>Q (v::xs) H2:=by
 refine ⟨F1,ρ1,rp1,?_⟩
 cases q:fr ρ1 with
 | ok p=>
  rw [q] at hp
  obtain ⟨ds,ρ2⟩:=p
  exact fun vs F2 H2 rp2 c2 av=>hp (v::vs) F2 H2 rp2 (c1.trans' c2) (ha F2 H2 vs ds c2 (ArgV.back c1 av))
 | exc c=>rw [q] at hp; exact fun F' H' s io c'=>hp F' H' s io (c1.trans' c')
 | bad=>rw [q] at hp; exact hp.elim
theorem qc (ha:PE X e (tE C own m fe)) (hr:PA X es (tAr C own as fr)) (hm:m≠.any:=by decide) (hs:starEach (e::es) X.env=(false,eval e X.env)::starEach es X.env:=by exact jP rfl):PA X (e::es) (tAr C own (.vl::as) (qd fe fr)):=by
 refine qcT (qT (yk ha hm) hr hs) fun σ H Q ⟨F,ρ,rp,h⟩=>⟨F,ρ,rp,PoA.bindV h fun v F1 H1 d ρ1 rp1 c1 mo1 h1=>?_⟩
 exact KN (fun x z=>(rp.OA_there z).1) rp1 c1 h1 fun F2 H2 vs ds c2 av=>⟨Is.mono c2.grow mo1,av⟩
theorem qQ {px:Pos} (hN:X.N[i]?=some x) (hv:Vis X.env.scope x) (ho:i∈own) (hr:PA X es (tAr C own as fr)) (hs:starEach (.Name x px::es) X.env=(false,eval (.Name x px) X.env)::starEach es X.env:=by rfl)
  (hd:(x == ("__debug__":Str))=false:=by decide) (hcd:(x == ("__classdict__":Str))=false:=by decide):PA X (.Name x px::es) (tAr C own (.sl i::as) (jQ fr)):=by
 refine qcT (qT (yb hN hv hd hcd) hr hs) fun σ H Q ⟨F,ρ,rp,h⟩=>?_
 obtain ⟨d,hd⟩:=rp.opn i ho
 obtain ⟨a,h1,h2,h3⟩:=rp.ow i d ho hd
 exact ⟨_,h1,KN (fun x z=>(rp.OA_there z).1) rp .refl h fun F2 H2 vs ds c2 av=>⟨h1,rfl,av⟩⟩
theorem ArgV.isL:∀ {as:List AK} {vs:List V} {ds:List D},(as.all fun a=>decide (a=.vl))=true->ArgV K H0 F H σ as vs ds->IsL K F vs ds
 | [],[],[],_,_=>.nil
 | .vl::as,v::vs,d::ds,h,a=>.cons a.1 (ArgV.isL (by simpa using h) a.2)
 | .sl i::as,_,_,h,a=>by simp at h
 | .fr::as,_,_,h,a=>by simp at h
 | [],_::_,_,_,h=>h.elim
 | [],[],_::_,_,h=>h.elim
 | .vl::_,[],_,_,h=>h.elim
 | .vl::_,_::_,[],_,h=>h.elim
noncomputable def ua (fr:Sl->Out (List D×Sl)):Sl->Out (D×Sl):=fun ρ=>(fr ρ).bind fun p=>if p.1.length<=sizeLine then .ok (.tup p.1,p.2) else .bad
noncomputable def wt (fr:Sl->Out (List D×Sl)):Sl->Out (D×Sl):=fun ρ=>(fr ρ).bind fun p=>if p.1.length<=sizeLine then .ok (.lst p.1,p.2) else .bad
theorem qeF (rp:Rep C.K own F H σ ρ) (hp:H p=none):Rep C.K own (upd F p u) (upd H p u) σ ρ/\Chg No F H (upd F p u) (upd H p u):=by
 have hF:F p=none:=by
  cases q:F p with
  | none=>rfl
  | some o=>rw [rp.sub p o q] at hp; cases hp
 have c:Chg No F H (upd F p u) (upd H p u):=⟨fun b o e _=>by rw [qD (qK e hp)]; exact e,fun b e=>by
  by_cases q:b=p
  ·rw [q,qw]; simp
  ·rw [qD q]; exact e,fun b o e=>by rw [qD (qK e hF)]; exact e,fun b e=>by
  by_cases q:b=p
  ·exact .inr (.inl (by rw [q]; exact hp))
  ·rw [qD q] at e; exact .inl e⟩
 refine ⟨rp.grow c fun b o e=>?_,c⟩
 by_cases q:b=p
 ·subst q; rw [qw] at e ⊢; exact e
 ·rw [qD q] at e ⊢; exact rp.sub b o e
theorem Zl (rp:Rep C.K own F H σ ρ) (hp:H p=none):Rep C.K own F (upd H p u) σ ρ/\Chg No F H F (upd H p u)/\F p=none:=by
 have hF:F p=none:=by
  cases q:F p with
  | none=>rfl
  | some o=>rw [rp.sub p o q] at hp; cases hp
 have c:Chg No F H F (upd H p u):=⟨fun b o e _=>by rw [qD (qK e hp)]; exact e,fun b e=>by
  by_cases q:b=p
  ·rw [q,qw]; simp
  ·rw [qD q]; exact e,Same.refl _,fun b e=>.inl e⟩
 exact ⟨rp.grow c fun b o e=>by rw [qD (qK e hF)]; exact rp.sub b o e,c,hF⟩
theorem jB {x1} (h:PA X es (tAr C own as fr)) (ha:(as.all fun a=>decide (a=.vl))=true:=by decide):PE X (.Tuple es x1 pos) (tE C own .sh (ua fr)):=by
 refine jJ (qek h) fun σ H Q ⟨F,ρ,rp,h⟩=>⟨F,ρ,rp,Po.bindA h fun vs F1 H1 ds ρ1 rp1 c1 av h1=>?_⟩
 have il:=av.isL ha
 have h1:Po C own .sh σ F1 H1 (if ds.length<=sizeLine then .ok (.tup ds,ρ1) else .bad) Q:=h1
 by_cases z:ds.length<=sizeLine
 ·rw [if_pos z] at h1
  refine ⟨by rw [il.length]; exact z,fun p hp=>?_⟩
  obtain ⟨rp2,c2⟩:=qeF (u:=.tup vs) rp1 hp
  exact h1 _ _ _ rp2 c2.ofNo (.tup (.inl (.inl qw)) (il.mono c2.grow))
 ·rw [if_neg z] at h1; exact h1.elim
theorem jC (h:PA X es (tAr C own as fr)) (ha:(as.all fun a=>decide (a=.vl))=true:=by decide):PE X (.List es pos) (tE C own .fr (wt fr)):=by
 refine jJ (qel h) fun σ H Q ⟨F,ρ,rp,h⟩=>⟨F,ρ,rp,Po.bindA h fun vs F1 H1 ds ρ1 rp1 c1 av h1=>?_⟩
 have il:=av.isL ha
 have h1:Po C own .fr σ F1 H1 (if ds.length<=sizeLine then .ok (.lst ds,ρ1) else .bad) Q:=h1
 by_cases z:ds.length<=sizeLine
 ·rw [if_pos z] at h1
  refine ⟨by rw [il.length]; exact z,fun p hp=>?_⟩
  obtain ⟨rp2,c2,hF⟩:=Zl (u:=.lst vs) rp1 hp
  exact h1 _ _ _ rp2 c2.ofNo ⟨p,rfl,hp,hF,vs,qw,il⟩
 ·rw [if_neg z] at h1; exact h1.elim
theorem UE:PE X (.Dict [] [] pos) (tE C own .fr (dC (.dct []))):=by
 refine jJ qaJ fun σ H Q ⟨F,ρ,rp,h⟩ p hp=>?_
 obtain ⟨rp2,c2,hF⟩:=Zl (u:=.dK []) rp hp
 exact h _ _ _ rp2 c2.ofNo ⟨p,rfl,hp,hF,[],qw,.nil⟩
noncomputable def ixD:D->D->Out D
 | .lst xs,.int i=>match atI xs i with
  | some d=>.ok d
  | none=>.bad
 | .tup xs,.int i=>match atI xs i with
  | some d=>.ok d
  | none=>.bad
 | .str x,.int i=>match atI x.cps.toList i with
  | some c=>.ok (.str ⟨#[c]⟩)
  | none=>.bad
 | .dct kvs,.str x=>match (kvs.find? fun kv=>decide (kv.1=bp x)) with
  | some kv=>.ok kv.2
  | none=>.bad
 | .dct kvs,.int x=>match (kvs.find? fun kv=>decide (kv.1=dJ x)) with
  | some kv=>.ok kv.2
  | none=>.bad
 | _,_=>.bad
theorem IsL.atI {i:Int} (h:IsL K F vs ds) (e:L2.atI ds i=some d):∃ v,L2.atI vs i=some v/\Is K F v d:=by
 unfold L2.atI at e ⊢
 rw [h.length]
 cases q:ixN ds.length i with
 | none=>rw [q] at e; cases e
 | some j=>
  rw [q] at e
  exact h.getD e
theorem IsK.find {k:Key}:∀ {vs:List (Key×V)} {ds:List (Key×D)} {d:Key×D},IsK K F vs ds->(ds.find? fun kv=>decide (kv.1=k))=some d->∃ v,VU vs k=some v/\Is K F v d.2
 | _,_,_,.nil,e=>by simp at e
 | _,_,d,.cons (k:=k') (vs:=vs) h t,e=>by
  by_cases q:k'=k
  ·rw [cg (by simp [q])] at e
   cases e
   exact ⟨_,zD q,h⟩
  ·rw [bL (by simp [q])] at e
   obtain ⟨v,h1,h2⟩:=IsK.find t e
   exact ⟨v,by rw [yz q]; exact h1,h2⟩
theorem UF (c:Nat):(⟨#[c]⟩:Str).length<=sizeLine:=by
 show 1<=sizeLine
 rw [sizeLine_eq]; decide
def qg7 (K:Frag):R2:=fun x y H Q=>rIx K x y H Q\/∃ a v,x=.ref a/\DGet H a y (some v)/\Q v H
theorem qb3 (hu:X.A.units+1 < cLine):IxR X (qg7 X.K):=by
 refine IxR.or qeo ?_
 intro value slice pins s σ H x y v u Q I rx ry h hs
 obtain ⟨a,w,rfl,g,q⟩:=h
 cases rx
 obtain ⟨T,ht⟩:∃ T,s.TypeIs (.ref a) T/\T = "dict":=⟨_,Wi I g,rfl⟩
 obtain ⟨ht,rfl⟩:=ht
 exact tail_any ht PySem.slot_dict_getitem.lookup (XV hu I g ry fun w' s' I' r=>⟨w,H,I',r,q⟩) hs
end
variable {T:String}
section
variable {a b:Expr} {fb:Sl->Out (D×Sl)}
theorem qb4 {σ:St} {x y:V} {dx dy:D} {Q:VK} (hK:C.K=X.K) (sb:Same F H) (tx:TopIs C.K F H x dx) (ty:TopIs C.K F H y dy) (po:PoV C .sh F H (ixD dx dy) Q):qg7 X.K x y H Q:=by
 rw [hK] at tx ty
 cases dx with
 | lst xs=>
  cases dy <;> try exact po.elim
  rename_i i
  obtain rfl:=ty.int
  obtain ⟨a,vs,rfl,p,t⟩:=tx.lst sb
  unfold ixD at po
  cases e:L2.atI xs i with
  | none=>simp only [e] at po; exact po.elim
  | some d=>
   simp only [e] at po
   obtain ⟨v,h1,h2⟩:=t.atI e
   exact .inl (.inl ⟨a,vs,i,v,rfl,rfl,p,h1,po v F H sb .refl (by rw [hK]; exact h2)⟩)
 | tup xs=>
  cases dy <;> try exact po.elim
  rename_i i
  obtain rfl:=ty.int
  obtain ⟨a,vs,rfl,p,t⟩:=tx.tup sb
  unfold ixD at po
  cases e:L2.atI xs i with
  | none=>simp only [e] at po; exact po.elim
  | some d=>
   simp only [e] at po
   obtain ⟨v,h1,h2⟩:=t.atI e
   exact .inl (.inr (.inl ⟨a,vs,i,v,rfl,rfl,p,h1,po v F H sb .refl (by rw [hK]; exact h2)⟩))
 | str z=>
  cases dy <;> try exact po.elim
  rename_i i
  obtain rfl:=ty.int
  obtain ⟨rfl,hz⟩:=tx.str
  unfold ixD at po
  cases e:L2.atI z.cps.toList i with
  | none=>simp only [e] at po; exact po.elim
  | some c=>
   simp only [e] at po
   exact .inl (.inr (.inr ⟨z,i,c,rfl,rfl,hz,e,po _ F H sb .refl (.str (UF c))⟩))
 | dct kvs=>
  obtain ⟨a,kv,rfl,p,t⟩:=tx.dct sb
  cases dy with
  | int i=>
   obtain rfl:=ty.int
   unfold ixD at po
   cases e:(kvs.find? fun kv=>decide (kv.1=dJ i)) with
   | none=>simp only [e] at po; exact po.elim
   | some d=>
    simp only [e] at po
    obtain ⟨v,h1,h2⟩:=t.find e
    exact .inr ⟨a,v,rfl,by rw [<-h1]; exact DGet.k (k:=dJ i) p,po v F H sb .refl (by rw [hK]; exact h2)⟩
  | str z=>
   obtain ⟨rfl,_⟩:=ty.str
   unfold ixD at po
   cases e:(kvs.find? fun kv=>decide (kv.1=bp z)) with
   | none=>simp only [e] at po; exact po.elim
   | some d=>
    simp only [e] at po
    obtain ⟨v,h1,h2⟩:=t.find e
    exact .inr ⟨a,v,rfl,by rw [<-h1]; exact DGet.k (k:=bp z) p,po v F H sb .refl (by rw [hK]; exact h2)⟩
  | _=>exact po.elim
 | _=>exact po.elim
theorem ju (hK:C.K=X.K) (hu:X.A.units+64 < cLine) (ha:PE X a (tE C own ma fa)) (hb:PE X b (tE C own mb fb)) (hs:Wf b) (hma:ma≠.any:=by decide):PE X (.Subscript a b pos) (tE C own .sh (d2 ixD fa fb)):=by
 refine jJ (qem (qb3 (by omega)) ha hb hs) fun σ H Q h=>?_
 obtain ⟨F,ρ,rp,h⟩:=KG (mb:=mb) hma h
 refine ⟨F,ρ,rp,?_⟩
 cases q:fa ρ with
 | ok p=>
  rw [q] at h
  obtain ⟨d,ρ1⟩:=p
  intro v F1 H1 rp1 c1 mo1
  obtain ⟨F2,ρ2,rp2,h2⟩:=h v F1 H1 rp1 c1 mo1
  refine ⟨F2,ρ2,rp2,?_⟩
  cases q2:fb ρ2 with
  | ok p=>
   rw [q2] at h2
   obtain ⟨d',ρ3⟩:=p
   intro w F3 H3 rp3 c3 mo3
   obtain ⟨F4,dx,dy,sb,tx,ty,po⟩:=h2 w F3 H3 rp3 c3 mo3
   exact qb4 (σ:=σ) hK sb tx ty po
  | exc c=>rw [q2] at h2; exact h2
  | bad=>rw [q2] at h2; exact h2.elim
 | exc c=>rw [q] at h; exact h
 | bad=>rw [q] at h; exact h.elim
def Jj (X:Cx) (C:Ct) (m:Mo) (f:Value) (g:D->Out D):Prop:=ub X f (fun xs H Q=>∃ x F dx,xs=[x]/\Same F H/\TopIs C.K F H x dx/\PoV C m F H (g dx) Q)
theorem xq {Q:VK} {g:D->Out D} (h:tE C own m (d1 g fa) σ H Q):YG (tE C own ma fa) qfO σ H fun xs H1=>∃ x F dx,xs=[x]/\Same F H1/\TopIs C.K F H1 x dx/\PoV C m F H1 (g dx) Q:=by
 obtain ⟨F,ρ,rp,h⟩:=Wj (ma:=ma) h
 refine ⟨F,ρ,rp,?_⟩
 cases q:fa ρ with
 | ok p=>
  rw [q] at h
  obtain ⟨d,ρ1⟩:=p
  intro v F1 H1 rp1 c1 mo1
  obtain ⟨F2,dx,sb,tx,po⟩:=h v F1 H1 rp1 c1 mo1
  exact ⟨v,F2,dx,rfl,sb,tx,po⟩
 | exc c=>rw [q] at h; exact h
 | bad=>rw [q] at h; exact h.elim
theorem qI {id:String} {p:Pos} {g:D->Out D} (hc:Jj X C m (.builtin id) g) (hg:Gl X x) (hm:X.mg x=none) (hv:bootBuiltins x=some (.builtin id)) (ha:PE X e (tE C own ma fa)) (hn:x ≠ "__name__":=by decide) (hdb:(x == ("__debug__":Str))=false:=by decide)
  (he:starEach [e] X.env=[(false,eval e X.env)]:=by exact qY rfl):PE X (.Call (.Name x p) [e] [] pos) (tE C own m (d1 g fa)):=
 jJ (wn hc hg hm hv (qT ha jM he) hn hdb (by rw [he]; rfl) rfl) fun _ _ _ h=>xq h
theorem kC {p:Pos} {g:D->Out D} (hc:Jj X C m (.type T) g) (hg:Gl X x) (hm:X.mg x=none) (hv:bootBuiltins x=some (.type T)) (ha:PE X e (tE C own ma fa)) (hn:x ≠ "__name__":=by decide) (hdb:(x == ("__debug__":Str))=false:=by decide)
  (he:starEach [e] X.env=[(false,eval e X.env)]:=by exact qY rfl):PE X (.Call (.Name x p) [e] [] pos) (tE C own m (d1 g fa)):=
 jJ (uc hc hg hm hv (qT ha jM he) hn hdb (by rw [he]; rfl) rfl) fun _ _ _ h=>xq h
noncomputable def kt:D->Out D
 | .str x=>.ok (.int x.length)
 | .lst xs=>.ok (.int xs.length)
 | .tup xs=>.ok (.int xs.length)
 | .dct xs=>.ok (.int xs.length)
 | _=>.bad
theorem IsK.length:∀ {vs:List (Key×V)} {ds:List (Key×D)},IsK K F vs ds->vs.length=ds.length
 | _,_,.nil=>rfl
 | _,_,.cons _ t=>congrArg (·+1) (IsK.length t)
theorem jD (hK:C.K=X.K):Jj X C .sh (.builtin "len") kt:=by
 intro pins s σ H xs us Q I r h
 obtain ⟨x,F,dx,rfl,sb,tx,po⟩:=h
 cases dx with
 | str z=>
  obtain ⟨rfl,hz⟩:=tx.str
  exact Jf pins s σ H _ us Q I r ⟨_,_,rfl,⟨hz,rfl⟩,po _ F H sb .refl (.int _)⟩
 | lst ds=>
  obtain ⟨a,vs,rfl,p,t⟩:=tx.lst sb
  exact Jf pins s σ H _ us Q I r ⟨_,ds.length,rfl,.inl ⟨vs,by rw [<-hK]; exact p,t.length.symm⟩,po _ F H sb .refl (.int _)⟩
 | tup ds=>
  obtain ⟨a,vs,rfl,p,t⟩:=tx.tup sb
  exact Jf pins s σ H _ us Q I r ⟨_,ds.length,rfl,.inr ⟨vs,by rw [<-hK]; exact p,t.length.symm⟩,po _ F H sb .refl (.int _)⟩
 | dct ds=>
  obtain ⟨a,vs,rfl,p,t⟩:=tx.dct sb
  refine XY pins s σ H _ us Q I r ⟨a,vs,rfl,p,?_⟩
  rw [t.length]
  exact po _ F H sb .refl (.int _)
 | _=>exact po.elim
noncomputable def kI:D->D->Out D
 | .int i,.int j=>.ok (.int (i+j))
 | .str x,.str y=>if x.length+y.length<=sizeLine then .ok (.str (x++y)) else .bad
 | .lst xs,.lst ys=>if xs.length+ys.length<=sizeLine then .ok (.lst (xs++ys)) else .bad
 | .tup xs,.tup ys=>if xs.length+ys.length<=sizeLine then .ok (.tup (xs++ys)) else .bad
 | _,_=>.bad
theorem wu (sb:Same F H) (hp:H p=none):Same (upd F p u) (upd H p u)/\Chg No F H (upd F p u) (upd H p u):=by
 have hF:F p=none:=by
  cases q:F p with
  | none=>rfl
  | some o=>rw [sb p o q] at hp; cases hp
 refine ⟨fun b o e=>?_,⟨fun b o e _=>by rw [qD (qK e hp)]; exact e,fun b e=>?_,fun b o e=>by rw [qD (qK e hF)]; exact e,fun b e=>?_⟩⟩
 ·by_cases q:b=p
  ·subst q; rw [qw] at e ⊢; exact e
  ·rw [qD q] at e ⊢; exact sb b o e
 ·by_cases q:b=p
  ·rw [q,qw]; simp
  ·rw [qD q]; exact e
 ·by_cases q:b=p
  ·exact .inr (.inl (by rw [q]; exact hp))
  ·rw [qD q] at e; exact .inl e
theorem vf (sb:Same F H) (hp:H p=none):Same F (upd H p u)/\Chg No F H F (upd H p u)/\F p=none:=by
 have hF:F p=none:=by
  cases q:F p with
  | none=>rfl
  | some o=>rw [sb p o q] at hp; cases hp
 refine ⟨fun b o e=>by rw [qD (qK e hF)]; exact sb b o e,⟨fun b o e _=>by rw [qD (qK e hp)]; exact e,fun b e=>?_,Same.refl _,fun b e=>.inl e⟩,hF⟩
 by_cases q:b=p
 ·rw [q,qw]; simp
 ·rw [qD q]; exact e
theorem Wm (x y:Str):(x++y).length=x.length+y.length:=by
 show (x.cps++y.cps).size=_
 simp [fz]
theorem qcU:OpR X (binaryOp .Add) (fun x y H Q=>∃ l b xs zs,x=.ref l/\y=.ref b/\SqL X.K H l xs/\SqL X.K H b zs/\xs.length+zs.length<=sizeLine/\∀ p,H p=none->Q (.ref p) (upd H p (.lst (xs++zs)))):=by
 intro pins s σ H x y v u Q I rx ry h
 obtain ⟨l,b,xs,zs,rfl,rfl,h1,h2,hz,q⟩:=h
 cases rx
 cases ry
 obtain ⟨its,r1,p1,_⟩:=I.list h1
 obtain ⟨its2,r2,p2,_⟩:=I.list h2
 obtain ⟨⟨cls,dd,data,sl⟩,ho,hc,n,hd⟩:=id p1.isList
 obtain ⟨⟨cls2,dd2,data2,sl2⟩,ho2,hc2,n2,hd2⟩:=id p2.isList
 simp only at hc hd hc2 hd2
 subst hc hd hc2 hd2
 have hl1:=r1.length
 have hl2:=r2.length
 refine concat_meets ⟨_,ho,rfl⟩ ⟨_,ho2,rfl⟩ noFill_list_add seq_list_add PySem.F.slot_list_add PySem.F.entry_list_add (PySem.F.args_list_add_2 _ _)
  (list_addW l b its.toArray its2.toArray n n2 dd dd2 sl sl2 (by simp only [ak]; omega)) ⟨ho,ho2,?_⟩
 have ea:its.toArray++its2.toArray=(its++its2).toArray:=by simp
 rw [ea]
 exact ⟨.ref _,_,I.lnew (t':=s.toks) (r1.append r2) (by rw [af]; exact hz),rfl,q _ I.fresh⟩
theorem qcV:OpR X (binaryOp .Add) (fun x y H Q=>∃ a b ys,x=.ref a/\y=.ref b/\SqT X.K H a []/\SqT X.K H b ys/\Q (.ref b) H):=by
 intro pins s σ H x y v u Q I rx ry h
 obtain ⟨a,b,ys,rfl,rfl,h1,h2,q⟩:=h
 cases rx
 cases ry
 obtain ⟨its,r1,p1,_⟩:=I.tuple h1
 obtain ⟨its2,r2,p2,_⟩:=I.tuple h2
 cases r1
 obtain ⟨⟨cls,dd,data,sl⟩,ho,hc,n,hd⟩:=id p1
 obtain ⟨⟨cls2,dd2,data2,sl2⟩,ho2,hc2,n2,hd2⟩:=id p2
 simp only at hc hd hc2 hd2
 subst hc hd hc2 hd2
 exact concat_meets ⟨_,ho,rfl⟩ ⟨_,ho2,rfl⟩ noFill_tuple_add seq_tuple_add dD dw (df _ _)
  (tuple_addW0 a b _ _ n n2 dd dd2 sl sl2 rfl) ⟨ho,ho2,⟨.ref b,H,I,rfl,q⟩⟩
theorem jv (hK:C.K=X.K):OpD X C .sh (binaryOp .Add) kI:=by
 intro pins s σ H x y v u Q I rx ry h
 obtain ⟨F,dx,dy,sb,tx,ty,po⟩:=h
 cases dx with
 | int i=>
  cases dy <;> try exact po.elim
  obtain rfl:=tx.int
  obtain rfl:=ty.int
  exact qed pins s σ H _ _ v u Q I rx ry ⟨_,_,rfl,rfl,po _ F H sb .refl (.int _)⟩
 | str a=>
  cases dy <;> try exact po.elim
  rename_i b
  obtain ⟨rfl,_⟩:=tx.str
  obtain ⟨rfl,_⟩:=ty.str
  have po:PoV C .sh F H (if a.length+b.length<=sizeLine then .ok (.str (a++b)) else .bad) Q:=po
  by_cases z:a.length+b.length<=sizeLine
  ·rw [if_pos z] at po
   exact YF pins s σ H _ _ v u Q I rx ry ⟨_,_,rfl,rfl,z,po _ F H sb .refl (.str (by rw [Wm]; exact z))⟩
  ·rw [if_neg z] at po; exact po.elim
 | lst xs=>
  cases dy <;> try exact po.elim
  rename_i ys
  obtain ⟨a,vs,rfl,p1,t1⟩:=tx.lst sb
  obtain ⟨b,ws,rfl,p2,t2⟩:=ty.lst sb
  have po:PoV C .sh F H (if xs.length+ys.length<=sizeLine then .ok (.lst (xs++ys)) else .bad) Q:=po
  by_cases z:xs.length+ys.length<=sizeLine
  ·rw [if_pos z] at po
   refine qcU pins s σ H _ _ v u Q I rx ry ⟨a,b,vs,ws,rfl,rfl,by rw [<-hK]; exact p1,by rw [<-hK]; exact p2,by rw [t1.length,t2.length]; exact z,fun p hp=>?_⟩
   obtain ⟨s2,c2⟩:=wu (u:=.lst (vs++ws)) sb hp
   exact po _ _ _ s2 c2 (.lst (.inl (.inl qw)) ((t1.append t2).mono c2.grow))
  ·rw [if_neg z] at po; exact po.elim
 | tup xs=>
  cases dy <;> try exact po.elim
  rename_i ys
  obtain ⟨a,vs,rfl,p1,t1⟩:=tx.tup sb
  obtain ⟨b,ws,rfl,p2,t2⟩:=ty.tup sb
  have po:PoV C .sh F H (if xs.length+ys.length<=sizeLine then .ok (.tup (xs++ys)) else .bad) Q:=po
  by_cases z:xs.length+ys.length<=sizeLine
  ·rw [if_pos z] at po
   cases vs with
   | nil=>
    cases t1
    rcases ty with ty | ⟨_,_,ty⟩
    ·exact qcV pins s σ H _ _ v u Q I rx ry ⟨a,b,ws,rfl,rfl,by rw [<-hK]; exact p1,by rw [<-hK]; exact p2,po _ F H sb .refl ty⟩
    ·exact ty.elim
   | cons v0 vs=>
    refine qcI pins s σ H _ _ v u Q I rx ry ⟨a,b,v0::vs,ws,rfl,rfl,by rw [<-hK]; exact p1,by rw [<-hK]; exact p2,by simp,by rw [t1.length,t2.length]; exact z,fun e=>?_,fun e p hp=>?_⟩
    ·subst e
     cases t2
     rcases tx with tx | ⟨_,_,tx⟩
     ·refine po _ F H sb .refl ?_
      rw [bf]
      exact tx
     ·exact tx.elim
    ·obtain ⟨s2,c2⟩:=wu (u:=.tup (v0::vs++ws)) sb hp
     exact po _ _ _ s2 c2 (.tup (.inl (.inl qw)) ((t1.append t2).mono c2.grow))
  ·rw [if_neg z] at po; exact po.elim
 | _=>exact po.elim
end
inductive PM where
 | val | io | tk
 deriving DecidableEq
noncomputable def zv:List PM->List V->List Addr
 | .val::ms,_::vs=>zv ms vs
 | .io::ms,.ref a::vs=>a::zv ms vs
 | .tk::ms,.ref a::vs=>a::zv ms vs
 | _::ms,_::vs=>zv ms vs
 | _,_=>[]
def ArgsIs (K:Frag) (F H:Hp):List PM->List V->List D->Prop
 | [],[],[]=>True
 | .val::ms,v::vs,d::ds=>Is K F v d/\ArgsIs K F H ms vs ds
 | .io::ms,v::vs,d::ds=>(∃ a,v=.ref a/\F a=none/\OwnIs K F H a d)/\ArgsIs K F H ms vs ds
 | .tk::ms,v::vs,d::ds=>(∃ a,v=.ref a/\F a=none/\OwnIs K F H a d)/\ArgsIs K F H ms vs ds
 | _,_,_=>False
def yD (K:Frag) (F H:Hp):List PM->List V->List D->Prop
 | [],_,_=>True
 | .io::ms,v::vs,d::ds=>(∃ a,v=.ref a/\F a=none/\OwnIs K F H a d)/\yD K F H ms vs ds
 | _::ms,_::vs,_::ds=>yD K F H ms vs ds
 | _,_,_=>False
abbrev LA (ms:List PM) (vs:List V):Addr->Prop:=fun b=>b∈zv ms vs
def PoG (K:Frag) (cv:Str->Value) (ms:List PM) (mr:Mo) (vs:List V) (F H:Hp) (Q:VK) (E:XK) (o:Out (D×List D)):Prop:=match o with
 | .ok (d,outs)=>∀ v F' H',Same F' H'->Chg (LA ms vs) F H F' H'->yD K F' H' ms vs outs->MoIs K mr H F' H' v d->Q v H'
 | .exc c o=>∀ F' H',Same F' H'->Chg (LA ms vs) F H F' H'->yD K F' H' ms vs (o.map (·.getD .non))->E (cv c) none H'
 | .bad=>False
def spD (K:Frag) (cv:Str->Value) (ms:List PM) (mr:Mo) (G:List D->Out (D×List D)):Sp:=fun vs H Q E=>∃ F ds,Same F H/\ArgsIs K F H ms vs ds/\(zv ms vs).Nodup/\PoG K cv ms mr vs F H Q E (G ds)
theorem ArgsIs.length:∀ {ms:List PM} {vs:List V} {ds:List D},ArgsIs K F H ms vs ds->vs.length=ms.length/\ds.length=ms.length
 | [],[],[],_=>⟨rfl,rfl⟩
 | .val::ms,v::vs,d::ds,h=>by have:=ArgsIs.length h.2; simp [this]
 | .io::ms,v::vs,d::ds,h=>by have:=ArgsIs.length h.2; simp [this]
 | .tk::ms,v::vs,d::ds,h=>by have:=ArgsIs.length h.2; simp [this]
 | [],_::_,_,h=>h.elim
 | [],[],_::_,h=>h.elim
 | .val::_,[],_,h=>h.elim
 | .val::_,_::_,[],h=>h.elim
 | .io::_,[],_,h=>h.elim
 | .io::_,_::_,[],h=>h.elim
 | .tk::_,[],_,h=>h.elim
 | .tk::_,_::_,[],h=>h.elim
noncomputable def kb (n:Nat):List PM->List Nat
 | []=>[]
 | .val::ms=>kb (n+1) ms
 | _::ms=>n::kb (n+1) ms
noncomputable def Wn (n:Nat):List PM->List Nat
 | []=>[]
 | .io::ms=>n::Wn (n+1) ms
 | _::ms=>Wn (n+1) ms
variable {n:Nat}
theorem yE:∀ {ms:List PM} {i:Nat},i∈kb n ms->n<=i/\i < n+ms.length:=by
 intro ms
 induction ms generalizing n with
 | nil=>intro i h; simp [kb] at h
 | cons m ms ih=>
  intro i h
  cases m with
  | val=>have:=ih (n:=n+1) h; simp only [aq]; omega
  | io=>
   rcases ac.mp h with e | h
   ·simp only [aq]; omega
   ·have:=ih (n:=n+1) h; simp only [aq]; omega
  | tk=>
   rcases ac.mp h with e | h
   ·simp only [aq]; omega
   ·have:=ih (n:=n+1) h; simp only [aq]; omega
theorem qaR:∀ {ms:List PM} {i:Nat},i∈Wn n ms->i∈kb n ms:=by
 intro ms
 induction ms generalizing n with
 | nil=>intro i h; simp [Wn] at h
 | cons m ms ih=>
  intro i h
  cases m with
  | val=>exact ih (n:=n+1) h
  | io=>
   rcases ac.mp h with e | h
   ·exact ac.mpr (.inl e)
   ·exact ae _ (ih (n:=n+1) h)
  | tk=>exact ae _ (ih (n:=n+1) h)
theorem YM:∀ {ms:List PM} {vs:List V} {ds:List D} {n:Nat},ArgsIs K F H ms vs ds ->
  (∀ j d,ds[j]?=some d->n+j∉kb n ms->∃ v,vs[j]?=some v/\Is K F v d) /\
  (∀ j d,ds[j]?=some d->n+j∈kb n ms->∃ a,vs[j]?=some (.ref a)/\F a=none/\OwnIs K F H a d):=by
 intro ms
 induction ms with
 | nil=>intro vs ds n h; cases vs <;> cases ds <;> first | exact h.elim | (refine ⟨fun j d e=>?_,fun j d e=>?_⟩ <;> simp at e)
 | cons m ms ih=>
  intro vs ds n h
  cases vs with
  | nil=>cases m <;> exact h.elim
  | cons v vs=>
   cases ds with
   | nil=>cases m <;> exact h.elim
   | cons d ds=>
    cases m with
    | val=>
     obtain ⟨h1,h2⟩:=h
     obtain ⟨i1,i2⟩:=ih (n:=n+1) h2
     refine ⟨fun j e hj hn=>?_,fun j e hj hn=>?_⟩
     ·cases j with
      | zero=>simp at hj; subst hj; exact ⟨v,rfl,h1⟩
      | succ j=>simpa using i1 j e (by simpa using hj) (by rw [show n+1+j=n+(j+1) by omega]; exact hn)
     ·cases j with
      | zero=>have:=yE (n:=n+1) hn; omega
      | succ j=>simpa using i2 j e (by simpa using hj) (by rw [show n+1+j=n+(j+1) by omega]; exact hn)
    | io=>
     obtain ⟨⟨a,rfl,h1⟩,h2⟩:=h
     obtain ⟨i1,i2⟩:=ih (n:=n+1) h2
     refine ⟨fun j e hj hn=>?_,fun j e hj hn=>?_⟩
     ·cases j with
      | zero=>exact absurd (ac.mpr (.inl rfl)) hn
      | succ j=>simpa using i1 j e (by simpa using hj) (fun z=>hn (ae _ (by rw [show n+(j+1)=n+1+j by omega]; exact z)))
     ·cases j with
      | zero=>simp at hj; subst hj; exact ⟨a,rfl,h1⟩
      | succ j=>
       have hm:n+1+j∈kb (n+1) ms:=by
        rcases ac.mp hn with z | z
        ·omega
        ·rw [show n+1+j=n+(j+1) by omega]; exact z
       simpa using i2 j e (by simpa using hj) hm
    | tk=>
     obtain ⟨⟨a,rfl,h1⟩,h2⟩:=h
     obtain ⟨i1,i2⟩:=ih (n:=n+1) h2
     refine ⟨fun j e hj hn=>?_,fun j e hj hn=>?_⟩
     ·cases j with
      | zero=>exact absurd (ac.mpr (.inl rfl)) hn
      | succ j=>simpa using i1 j e (by simpa using hj) (fun z=>hn (ae _ (by rw [show n+(j+1)=n+1+j by omega]; exact z)))
     ·cases j with
      | zero=>simp at hj; subst hj; exact ⟨a,rfl,h1⟩
      | succ j=>
       have hm:n+1+j∈kb (n+1) ms:=by
        rcases ac.mp hn with z | z
        ·omega
        ·rw [show n+1+j=n+(j+1) by omega]; exact z
       simpa using i2 j e (by simpa using hj) hm
theorem Zm:∀ {ms:List PM} {vs:List V} {j:Nat} {a:Addr},n+j∈kb n ms->vs[j]?=some (.ref a)->a∈zv ms vs:=by
 intro ms
 induction ms generalizing n with
 | nil=>intro vs j a h; simp [kb] at h
 | cons m ms ih=>
  intro vs j a h e
  cases vs with
  | nil=>simp at e
  | cons v vs=>
   cases j with
   | zero=>
    simp at e; subst e
    cases m with
    | val=>have:=yE (n:=n+1) h; omega
    | io=>exact ac.mpr (.inl rfl)
    | tk=>exact ac.mpr (.inl rfl)
   | succ j=>
    have e':vs[j]?=some (.ref a):=by simpa using e
    have sub:n+1+j∈kb (n+1) ms:=by
     rw [show n+1+j=n+(j+1) by omega]
     cases m with
     | val=>exact h
     | io=>exact (ac.mp h).resolve_left (by omega)
     | tk=>exact (ac.mp h).resolve_left (by omega)
    have q:=ih (n:=n+1) sub e'
    cases m <;> cases v <;> first | exact q | exact ae _ q
theorem Zn:∀ {ms:List PM} {vs:List V} {a:Addr},a∈zv ms vs->∃ j,n+j∈kb n ms/\vs[j]?=some (.ref a):=by
 intro ms
 induction ms generalizing n with
 | nil=>intro vs a h; cases vs <;> simp [zv] at h
 | cons m ms ih=>
  intro vs a h
  cases vs with
  | nil=>cases m <;> simp [zv] at h
  | cons v vs=>
   have up:∀ {b},b∈zv ms vs->∃ j,n+j∈kb n (m::ms)/\(v::vs)[j]?=some (.ref b):=fun hb=>by
    obtain ⟨j,h1,h2⟩:=ih (n:=n+1) hb
    refine ⟨j+1,?_,by simpa using h2⟩
    rw [show n+(j+1)=n+1+j by omega]
    cases m with
    | val=>exact h1
    | io=>exact ae _ h1
    | tk=>exact ae _ h1
   cases m with
   | val=>exact up (by cases v <;> exact h)
   | io=>
    cases v with
    | ref c=>
     rcases ac.mp h with e | h
     ·subst e; exact ⟨0,ac.mpr (.inl rfl),rfl⟩
     ·exact up h
    | _=>exact up h
   | tk=>
    cases v with
    | ref c=>
     rcases ac.mp h with e | h
     ·subst e; exact ⟨0,ac.mpr (.inl rfl),rfl⟩
     ·exact up h
    | _=>exact up h
theorem qaS:∀ {ms:List PM} {vs:List V} {i j:Nat} {a:Addr},(zv ms vs).Nodup->n+i∈kb n ms->n+j∈kb n ms->vs[i]?=some (.ref a)->vs[j]?=some (.ref a)->i=j:=by
 intro ms
 induction ms generalizing n with
 | nil=>intro vs i j a _ h; simp [kb] at h
 | cons m ms ih=>
  intro vs i j a nd hi hj e1 e2
  cases vs with
  | nil=>simp at e1
  | cons v vs=>
   have sub:∀ {k},n+(k+1)∈kb n (m::ms)->n+1+k∈kb (n+1) ms:=fun {k} h=>by
    rw [show n+1+k=n+(k+1) by omega]
    cases m with
    | val=>exact h
    | io=>exact (ac.mp h).resolve_left (by omega)
    | tk=>exact (ac.mp h).resolve_left (by omega)
   have nd':(zv ms vs).Nodup:=by
    cases m <;> cases v <;> first | exact nd | exact (aL.mp nd).2
   have no0:∀ {k b},n+0∈kb n (m::ms)->v=.ref b->n+(k+1)∈kb n (m::ms)->vs[k]?=some (.ref b)->False:=fun {k b} h0 hv hk ek=>by
    subst hv
    have q:=Zm (n:=n+1) (sub hk) ek
    cases m with
    | val=>have:=yE (n:=n+1) h0; omega
    | io=>exact (aL.mp nd).1 q
    | tk=>exact (aL.mp nd).1 q
   cases i with
   | zero=>
    cases j with
    | zero=>rfl
    | succ j=>exact (no0 hi (by simpa using e1) hj (by simpa using e2)).elim
   | succ i=>
    cases j with
    | zero=>exact (no0 hj (by simpa using e2) hi (by simpa using e1)).elim
    | succ j=>exact congrArg (·+1) (ih (n:=n+1) nd' (sub hi) (sub hj) (by simpa using e1) (by simpa using e2))
noncomputable def qu (N:List Str) (ds:List D):Sl:=ds.map some++aE (N.length - ds.length) none
variable {α:Type} {N:List Str}
theorem get_start {xs:List α} {x:α}:(xs.map some++aE (N.length - xs.length) none)[i]?=some (some x)↔xs[i]?=some x:=by
 by_cases h:i < xs.length
 ·rw [cr (by simpa using h),aH]
  cases e:xs[i]? with
  | none=>simp
  | some y=>simp
 ·rw [bI (by simpa using h),bg]
  have e:xs[i]?=none:=bQ.mpr (by omega)
  rw [e]
  split <;> simp
variable {ms:List PM}
theorem Zo (sb:Same F H) (ar:ArgsIs K F H ms vs ds) (nd:(zv ms vs).Nodup):Rep K (kb 0 ms) F H (vQ N vs) (qu N ds):=by
 obtain ⟨h1,h2⟩:=YM (n:=0) ar
 obtain ⟨l1,l2⟩:=ar.length
 refine ⟨sb,by simp [vQ,qu,l1,l2],fun i d hi e=>?_,fun i d hi e=>?_,fun i hi=>?_,fun i j a hi hj e1 e2=>?_⟩
 ·obtain ⟨v,a,b⟩:=h1 i d (get_start.mp e) (by simpa using hi)
  exact ⟨v,get_start.mpr a,b⟩
 ·obtain ⟨v,a,b⟩:=h2 i d (get_start.mp e) (by simpa using hi)
  exact ⟨v,get_start.mpr a,b⟩
 ·have q:=yE hi
  have hl:i < ds.length:=by omega
  exact ⟨ds[i],get_start.mpr (by simp [hl])⟩
 ·exact qaS (n:=0) nd (by simpa using hi) (by simpa using hj) (get_start.mp e1) (get_start.mp e2)
theorem oa_start:OA (kb 0 ms) (vQ N vs) b↔LA ms vs b:=by
 constructor
 ·rintro ⟨i,hi,e⟩
  exact Zm (n:=0) (by simpa using hi) (get_start.mp e)
 ·intro h
  obtain ⟨j,h1,h2⟩:=Zn (n:=0) h
  exact ⟨j,by simpa using h1,get_start.mpr h2⟩
noncomputable def qv (ρ:Sl):Nat->List PM->List D
 | _,[]=>[]
 | n,.io::ms=>((ρ[n]?).getD none).getD .non::qv ρ (n+1) ms
 | n,_::ms=>.non::qv ρ (n+1) ms
theorem qcW {σ:St} {N:List Str}:∀ {ms:List PM} {vs:List V} {n:Nat},vs.length=ms.length->(∀ i∈Wn n ms,∃ d a,ρ[i]?=some (some d)/\vs[i - n]?=some (V.ref a)/\F a=none/\OwnIs K F H a d)->yD K F H ms vs (qv ρ n ms):=by
 intro ms
 induction ms with
 | nil=>intro vs n _ _; trivial
 | cons m ms ih=>
  intro vs n hl h
  cases vs with
  | nil=>simp at hl
  | cons v vs=>
   have rest:(∀ i∈Wn (n+1) ms,i∈Wn n (m::ms))->yD K F H ms vs (qv ρ (n+1) ms):=fun hs=>by
    refine ih (by simpa using hl) fun i hi=>?_
    obtain ⟨d,a,e1,e2,e3⟩:=h i (hs i hi)
    have q:=yE (qaR hi)
    refine ⟨d,a,e1,?_,e3⟩
    rw [show i - n=(i - (n+1))+1 by omega] at e2
    simpa using e2
   cases m with
   | val=>exact rest fun i hi=>hi
   | io=>
    obtain ⟨d,a,e1,e2,e3⟩:=h n (ac.mpr (.inl rfl))
    refine ⟨⟨a,by simpa using e2,e3.1,?_⟩,rest fun i hi=>ae _ hi⟩
    rw [e1]
    exact e3.2
   | tk=>exact rest fun i hi=>hi
noncomputable def Fl.val:Fl->Option D
 | .nx=>some .non
 | .rt d=>some d
 | _=>none
noncomputable def jT (N:List Str) (ms:List PM) (f:Sl->Out (Fl×Sl)) (ds:List D):Out (D×List D):=match f (qu N ds) with
 | .ok (.nx,ρ)=>.ok (.non,qv ρ 0 ms)
 | .ok (.rt d,ρ)=>.ok (d,qv ρ 0 ms)
 | .ok _=>.bad
 | .exc c ρ=>.exc c ((qv ρ 0 ms).map some)
 | .bad=>.bad
theorem UG:∀ (l:List D),(l.map some).map (fun x:Option D=>x.getD .non)=l
 | []=>rfl
 | a::l=>congrArg (a::·) (UG l)
def Out.le {α:Type} (a b:Out α):Prop:=a=.bad\/a=b
theorem Zp {f:Sl->Out (Fl×Sl)} {Q:VK} {o:Out (D×List D)} (hio:C.io=Wn 0 ms) (hox:C.ox=C.io) (hmr:C.mr=.sh\/∀ ρ,(f (qu N ds))≠.ok (.nx,ρ)) (hsub:∀ i∈Wn 0 ms,i∈own') (sb:Same F H) (ar:ArgsIs C.K F H ms vs ds) (nd:(zv ms vs).Nodup)
  (hG:Out.le o (jT N ms f ds)) (h:PoG C.K C.cv ms C.mr vs F H Q C.E o):tSt C (kb 0 ms) own' f { nx:=fun _ H'=>Q .non H',rt:=Q } (vQ N vs) H:=by
 refine ⟨F,qu N ds,Zo sb ar nd,?_⟩
 have hl:=ar.length.1
 have ch:∀ {F' H'},Chg (OA (kb 0 ms) (vQ N vs)) F H F' H'->Chg (LA ms vs) F H F' H':=fun c=>c.mono fun x z=>oa_start.mp z
 have outs:∀ {σ':St} {ρ':Sl} {F' H':Hp},Xv C.K C.io F' H' σ' ρ'->(∀ i∈C.io,σ'[i]?=(vQ N vs)[i]?)->yD C.K F' H' ms vs (qv ρ' 0 ms):=fun {σ' ρ' F' H'} io e=>by
  refine qcW (N:=N) (σ:=σ') hl fun i hi=>?_
  have hi':i∈C.io:=by rw [hio]; exact hi
  obtain ⟨d,a,e1,e2,e3⟩:=io i hi'
  refine ⟨d,a,e1,?_,e3⟩
  rw [e i hi'] at e2
  exact get_start.mp e2
 rcases hG with e | e
 ·subst e; exact h.elim
 ·subst e
  unfold jT at h
  cases q:f (qu N ds) with
  | ok p=>
   rw [q] at h
   obtain ⟨fl,ρ'⟩:=p
   cases fl with
   | nx=>
    have hm:C.mr=.sh:=hmr.resolve_right fun z=>z ρ' q
    exact fun σ' F' H' n=>h .non F' H' n.rep.sub (ch n.chg) (outs (n.rep.ioIs (by rw [hio]; exact hsub)) n.io) (by rw [hm]; exact .non)
   | rt d=>exact fun v σ' F' H' s io c e mo=>h v F' H' s (ch c) (outs io e) mo
   | bk=>exact h.elim
   | ct=>exact h.elim
  | exc c ρ'=>
   rw [q] at h
   exact fun F' H' s io c'=>h F' H' s (ch c') (by rw [UG]; exact outs (σ':=vQ N vs) (by rw [<-hox]; exact io) fun _ _=>rfl)
  | bad=>rw [q] at h; exact h.elim
def qdP (K:Frag) (cv:Str->Value) (E:XK) (ms:List PM) (mr:Mo):Ct:=⟨K,cv,E,Wn 0 ms,mr,[],Wn 0 ms,fun _ h=>h⟩
theorem qg8 {P:Program} {w:World} {K:Frag} {mg:Str->Option Value} {base:Heap} {CX:CXT} {x qual:Str} {st:Stmt} {f:Addr} {fd:FuncData} {N ps:List Str} {k:Nat} {cv:Str->Value} {ms:List PM} {mr:Mo} {own':List Nat} {fb:Sl->Out (Fl×Sl)} {G:List D->Out (D×List D)}
  (F:Fun K x qual st f fd) (S:FnScope N ps (qe st)) (hl:ms.length=ps.length) (hsub:∀ i∈Wn 0 ms,i∈own') (hmr:mr=.sh\/∀ ds ρ,(fb (qu N ds))≠.ok (.nx,ρ))
  (hbody:∀ (cdv:Value) (A:Around) (outer:List Env) (s:Shared) (H:Hp) (E:XK),Room k (A.deeper (envOfC qual (qe st) s.heap.objs.size f cdv)) ->
   PSs (qcE CX P w K mg base N qual (qe st) f cdv A outer s H E) (kJ st) (tSt (qdP K cv E ms mr) (kb 0 ms) own' fb))
  (hG:∀ ds,Out.le (G ds) (jT N ms fb ds)):FnOk P w K mg base CX (k+1) f fd ps (spD K cv ms mr G):=by
 obtain ⟨oc,od,kV,doc,pm,an,cdv,ct,osl,rfl,lk,hcd⟩:=F.ex
 refine qgq lk hcd S (fun vs H Q E h=>?_) fun A outer s H vs Q E hr hsp=>?_
 ·obtain ⟨F,ds,_,ar,_⟩:=h
  rw [ar.length.1,hl]
 ·obtain ⟨F1,ds,sb,ar,nd,h⟩:=hsp
  refine ⟨_,hbody cdv A outer s H E hr,?_⟩
  exact Zp (C:=qdP K cv E ms mr) rfl rfl (hmr.imp id fun z ρ=>z ds ρ) hsub sb ar nd (hG ds) h
noncomputable def QE:AK->PM
 | .vl=>.val
 | .sl _=>.io
 | .fr=>.tk
noncomputable def qC:List AK->List D->Sl->Option (List D)
 | [],[],_=>some []
 | .sl i::as,_::ds,ρ=>match ρ[i]? with
  | some (some d)=>(qC as ds ρ).map (d::·)
  | _=>none
 | .vl::as,d::ds,ρ=>(qC as ds ρ).map (d::·)
 | .fr::as,d::ds,ρ=>(qC as ds ρ).map (d::·)
 | _,_,_=>none
noncomputable def qS:List AK->List D->Sl->Sl
 | .sl i::as,d::outs,ρ=>qS as outs (ρ.set i (some d))
 | _::as,_::outs,ρ=>qS as outs ρ
 | _,_,ρ=>ρ
noncomputable def jj:List AK->List Nat
 | []=>[]
 | .sl i::as=>i::jj as
 | _::as=>jj as
noncomputable def frA:List AK->Nat
 | []=>0
 | .fr::as=>frA as+1
 | _::as=>frA as
section
theorem yF:∀ {as:List AK} {vs:List V} {ds ds':List D},Rep K own F H σ ρ->(∀ i∈jj as,i∈own)->ArgV K H0 F H σ as vs ds->qC as ds ρ=some ds'->ArgsIs K F H (as.map QE) vs ds'
 | [],vs,ds,ds',rp,hs,av,e=>by
  cases vs <;> cases ds <;> first | exact av.elim | (simp [qC] at e; subst e; trivial)
 | a::as,[],ds,ds',rp,hs,av,e=>by cases a <;> exact av.elim
 | a::as,v::vs,[],ds',rp,hs,av,e=>by cases a <;> exact av.elim
 | .vl::as,v::vs,d::ds,ds',rp,hs,av,e=>by
  cases q:qC as ds ρ with
  | none=>simp [qC,q] at e
  | some l=>
   have e:d::l=ds':=by simpa [qC,q] using e
   subst e
   exact ⟨av.1,yF rp hs av.2 q⟩
 | .fr::as,v::vs,d::ds,ds',rp,hs,av,e=>by
  cases q:qC as ds ρ with
  | none=>simp [qC,q] at e
  | some l=>
   have e:d::l=ds':=by simpa [qC,q] using e
   subst e
   obtain ⟨a,h1,_,h2,h3⟩:=av.1
   exact ⟨⟨a,h1,h2,h3⟩,yF rp hs av.2 q⟩
 | .sl i::as,v::vs,d::ds,ds',rp,hs,av,e=>by
  obtain ⟨h1,_,av2⟩:=av
  have hi:i∈own:=hs i (ac.mpr (.inl rfl))
  obtain ⟨d',hd⟩:=rp.opn i hi
  obtain ⟨a,e1,e2,e3⟩:=rp.ow i d' hi hd
  rw [h1] at e1
  cases e1
  cases q:qC as ds ρ with
  | none=>simp [qC,q,hd] at e
  | some l=>
   have e:d'::l=ds':=by simpa [qC,q,hd] using e
   subst e
   exact ⟨⟨a,rfl,e2,e3⟩,yF rp (fun j hj=>hs j (ae _ hj)) av2 q⟩
theorem vg:∀ {as:List AK} {vs:List V} {ds:List D} {b:Addr},ArgV K H0 F H σ as vs ds->b∈zv (as.map QE) vs->(∃ i∈jj as,σ[i]?=some (some (V.ref b)))\/(H0 b=none/\frA as≠0/\H b≠none/\F b=none)
 | [],vs,ds,b,av,h=>by cases vs <;> simp [zv] at h
 | a::as,[],ds,b,av,h=>by cases a <;> exact av.elim
 | a::as,v::vs,[],b,av,h=>by cases a <;> exact av.elim
 | .vl::as,v::vs,d::ds,b,av,h=>by
  have h:b∈zv (as.map QE) vs:=by cases v <;> exact h
  exact vg (as:=as) av.2 h
 | .fr::as,v::vs,d::ds,b,av,h=>by
  obtain ⟨⟨a,rfl,h0,hF,o⟩,av2⟩:=av
  have h:b∈a::zv (as.map QE) vs:=h
  rcases ac.mp h with e | h
  ·subst e; exact .inr ⟨h0,by simp [frA],o.there,hF⟩
  ·rcases vg av2 h with z | ⟨z,_,z2⟩
   ·exact .inl z
   ·exact .inr ⟨z,by simp [frA],z2⟩
 | .sl i::as,v::vs,d::ds,b,av,h=>by
  obtain ⟨h1,_,av2⟩:=av
  have up:b∈zv (as.map QE) vs->(∃ j∈jj (.sl i::as),σ[j]?=some (some (V.ref b)))\/(H0 b=none/\frA (.sl i::as)≠0/\H b≠none/\F b=none):=fun h=>by
   rcases vg av2 h with ⟨j,hj,e⟩ | z
   ·exact .inl ⟨j,ae _ hj,e⟩
   ·exact .inr z
  cases v with
  | ref a=>
   have h:b∈a::zv (as.map QE) vs:=h
   rcases ac.mp h with e | h
   ·subst e; exact .inl ⟨i,ac.mpr (.inl rfl),h1⟩
   ·exact up h
  | _=>exact up h
theorem uJ:∀ {as:List AK} {vs:List V} {ds:List D},Rep K own F H σ ρ->(∀ x,OA own σ x->H0 x≠none)->(∀ i∈jj as,i∈own)->(jj as).Nodup->frA as<=1->ArgV K H0 F H σ as vs ds->(zv (as.map QE) vs).Nodup
 | [],vs,ds,rp,h0,hs,nd,hf,av=>by cases vs <;> simp [zv]
 | a::as,[],ds,rp,h0,hs,nd,hf,av=>by cases a <;> exact av.elim
 | a::as,v::vs,[],rp,h0,hs,nd,hf,av=>by cases a <;> exact av.elim
 | .vl::as,v::vs,d::ds,rp,h0,hs,nd,hf,av=>by
  have q:=uJ (as:=as) rp h0 hs nd hf av.2
  cases v <;> exact q
 | .fr::as,v::vs,d::ds,rp,h0,hs,nd,hf,av=>by
  have hf':frA as=0:=by simp only [frA] at hf; omega
  obtain ⟨⟨a,rfl,hz,hF,o⟩,av2⟩:=av
  show (a::zv (as.map QE) vs).Nodup
  refine aL.mpr ⟨fun z=>?_,uJ rp h0 hs nd (by omega) av2⟩
  rcases vg av2 z with ⟨i,hi,e⟩ | ⟨_,n,_⟩
  ·exact h0 a ⟨i,hs i hi,e⟩ hz
  ·exact n hf'
 | .sl i::as,v::vs,d::ds,rp,h0,hs,nd,hf,av=>by
  obtain ⟨h1,_,av2⟩:=av
  have hs':∀ j∈jj as,j∈own:=fun j hj=>hs j (ae _ hj)
  have hi:i∈own:=hs i (ac.mpr (.inl rfl))
  obtain ⟨ni,nd'⟩:=aL.mp nd
  have q:=uJ rp h0 hs' nd' hf av2
  cases v with
  | ref a=>
   show (a::zv (as.map QE) vs).Nodup
   refine aL.mpr ⟨fun z=>?_,q⟩
   rcases vg av2 z with ⟨j,hj,e⟩ | ⟨n,_⟩
   ·exact ni (by rw [rp.dis i j a hi (hs' j hj) h1 e]; exact hj)
   ·exact h0 a ⟨i,hi,h1⟩ n
  | _=>exact q
theorem wv:∀ {as:List AK} {outs:List D} {ρ:Sl} {i:Nat},i∉jj as->(qS as outs ρ)[i]?=ρ[i]?
 | [],outs,ρ,i,h=>by cases outs <;> rfl
 | a::as,[],ρ,i,h=>by cases a <;> rfl
 | .vl::as,d::outs,ρ,i,h=>wv (as:=as) h
 | .fr::as,d::outs,ρ,i,h=>wv (as:=as) h
 | .sl j::as,d::outs,ρ,i,h=>by
  have h':i≠j/\i∉jj as:=by simpa [jj] using h
  show (qS as outs (ρ.set j (some d)))[i]?=_
  rw [wv h'.2,aj (aX h'.1)]
theorem zE:∀ {as:List AK} {outs:List D} {ρ:Sl},(qS as outs ρ).length=ρ.length
 | [],outs,ρ=>by cases outs <;> rfl
 | a::as,[],ρ=>by cases a <;> rfl
 | .vl::as,d::outs,ρ=>zE (as:=as)
 | .fr::as,d::outs,ρ=>zE (as:=as)
 | .sl j::as,d::outs,ρ=>by
  show (qS as outs (ρ.set j (some d))).length=_
  rw [zE,cX]
theorem Jk {F' H':Hp}:∀ {as:List AK} {vs:List V} {ds outs:List D} {ρ:Sl},(jj as).Nodup->(∀ i∈jj as,i < ρ.length)->ArgV K H0 F H σ as vs ds->yD K F' H' (as.map QE) vs outs->∀ i∈jj as,∃ d a,(qS as outs ρ)[i]?=some (some d)/\σ[i]?=some (some (V.ref a))/\F' a=none/\OwnIs K F' H' a d
 | [],vs,ds,outs,ρ,nd,hl,av,o,i,hi=>by simp [jj] at hi
 | a::as,[],ds,outs,ρ,nd,hl,av,o,i,hi=>by cases a <;> exact av.elim
 | a::as,v::vs,[],outs,ρ,nd,hl,av,o,i,hi=>by cases a <;> exact av.elim
 | a::as,v::vs,d::ds,[],ρ,nd,hl,av,o,i,hi=>by cases a <;> exact o.elim
 | .vl::as,v::vs,d::ds,u::outs,ρ,nd,hl,av,o,i,hi=>Jk (as:=as) nd hl av.2 o i hi
 | .fr::as,v::vs,d::ds,u::outs,ρ,nd,hl,av,o,i,hi=>Jk (as:=as) nd hl av.2 o i hi
 | .sl j::as,v::vs,d::ds,u::outs,ρ,nd,hl,av,o,i,hi=>by
  obtain ⟨ni,nd'⟩:=aL.mp nd
  obtain ⟨h1,_,av2⟩:=av
  obtain ⟨⟨a,e,hF,ow⟩,o2⟩:=o
  subst e
  rcases ac.mp hi with e | hi
  ·subst e
   refine ⟨u,a,?_,h1,hF,ow⟩
   show (qS as outs (ρ.set i (some u)))[i]?=_
   rw [wv ni,aC (hl i (ac.mpr (.inl rfl)))]
  ·exact Jk (as:=as) (ρ:=ρ.set j (some u)) nd' (fun k hk=>by rw [cX]; exact hl k (ae _ hk)) av2 o2 i hi
end
noncomputable def qx (as:List AK) (G:List D->Out (D×List D)) (fr:Sl->Out (List D×Sl)):Sl->Out (D×Sl):=fun ρ=>(fr ρ).bind fun p=>match qC as p.1 p.2 with
 | some ds=>match G ds with
  | .ok q=>.ok (q.1,qS as q.2 p.2)
  | .exc c o=>.exc c (qS as (o.map (·.getD .non)) p.2)
  | .bad=>.bad
 | none=>.bad
variable {G:List D->Out (D×List D)} {mr:Mo} {CX:CXT} {fd:FuncData} {ps:List Str}
section
variable {fr:Sl->Out (List D×Sl)}
theorem UH {F' H':Hp} {outs:List D} (rp:Rep C.K own F H σ ρ) (h0:∀ x,OA own σ x->H0 x≠none) (hs:∀ i∈jj as,i∈own) (nd:(jj as).Nodup) (av:ArgV C.K H0 F H σ as vs ds)
  (sb:Same F' H') (c:Chg (LA (as.map QE) vs) F H F' H') (o:yD C.K F' H' (as.map QE) vs outs):Rep C.K own F' H' σ (qS as outs ρ):=by
 have pin:=Jk (ρ:=ρ) nd (fun i hi=>by
  obtain ⟨d,e⟩:=rp.opn i (hs i hi)
  exact (au.mp e).1) av o
 refine ⟨sb,by rw [zE]; exact rp.len,fun i d hi e=>?_,fun i d hi e=>?_,fun i hi=>?_,rp.dis⟩
 ·rw [wv (fun z=>hi (hs i z))] at e
  obtain ⟨v,h1,h2⟩:=rp.val i d hi e
  exact ⟨v,h1,h2.mono c.grow⟩
 ·by_cases q:i∈jj as
  ·obtain ⟨d',a,e1,e2,e3,e4⟩:=pin i q
   rw [e1] at e
   cases e
   exact ⟨a,e2,e3,e4⟩
  ·rw [wv q] at e
   obtain ⟨a,h1,h2,h3⟩:=rp.ow i d hi e
   have nl:¬LA (as.map QE) vs a:=fun z=>by
    rcases vg av z with ⟨j,hj,e'⟩ | ⟨n,_⟩
    ·exact q (by rw [rp.dis i j a hi (hs j hj) h1 e']; exact hj)
    ·exact h0 a ⟨i,hi,h1⟩ n
   refine ⟨a,h1,?_,h3.grow c.grow fun o' q'=>c.keep a o' q' nl⟩
   cases q':F' a with
   | none=>rfl
   | some u=>
    rcases c.new a (by rw [q']; simp) with z | z | z
    ·exact absurd h2 z
    ·exact absurd z h3.there
    ·exact absurd z nl
 ·by_cases q:i∈jj as
  ·obtain ⟨d',a,e1,_⟩:=pin i q
   exact ⟨d',e1⟩
  ·rw [wv q]
   exact rp.opn i hi
theorem Wo {Q:VK} (hio:∀ i∈C.ox,i∈own) (hs:∀ i∈jj as,i∈own) (nd:(jj as).Nodup) (hf:frA as<=1) (h:tE C own mr (qx as G fr) σ H Q) :
  tAr C own as fr σ H fun vs H1=>spD C.K C.cv (as.map QE) mr G (vs++[]) H1 Q C.E:=by
 obtain ⟨F,ρ,rp,h⟩:=h
 have h0:∀ x,OA own σ x->H x≠none:=fun x z=>(rp.OA_there z).1
 refine ⟨F,ρ,rp,?_⟩
 unfold qx at h
 cases q0:fr ρ with
 | ok p=>
  rw [q0] at h
  obtain ⟨ds,ρ1⟩:=p
  intro vs F1 H1 rp1 c1 av
  rw [bf]
  have h1:Po C own mr σ F H (match qC as ds ρ1 with | some ds=>(match G ds with | .ok q=>.ok (q.1,qS as q.2 ρ1) | .exc c o=>.exc c (qS as (o.map (·.getD .non)) ρ1) | .bad=>.bad) | none=>.bad) Q:=h
  cases q:qC as ds ρ1 with
  | none=>simp only [q] at h1; exact h1.elim
  | some ds'=>
   simp only [q] at h1
   have lo:∀ x,LA (as.map QE) vs x->OA own σ x\/H x=none:=fun x z=>by
    rcases vg av z with ⟨i,hi,e⟩ | ⟨n,_⟩
    ·exact .inl ⟨i,hs i hi,e⟩
    ·exact .inr n
   refine ⟨F1,ds',rp1.sub,yF rp1 hs av q,uJ rp1 h0 hs nd hf av,?_⟩
   cases q2:G ds' with
   | ok p=>
    rw [q2] at h1
    obtain ⟨d,outs⟩:=p
    exact fun v F' H' sb c o mo=>h1 v F' H' (UH rp1 h0 hs nd av sb c o) (c1.trans c lo) (MoIs.back (Ha:=H1) c1 mo)
   | exc x o=>rw [q2] at h1; exact fun F' H' sb c outs=>h1 F' H' sb ((UH rp1 h0 hs nd av sb c outs).ioIs hio) (c1.trans c lo)
   | bad=>rw [q2] at h1; exact h1.elim
 | exc c=>rw [q0] at h; exact h
 | bad=>rw [q0] at h; exact h.elim
theorem qcX {k:Nat} {f:Addr} {p pos:Pos} (F:FnOk X.prog X.w X.K X.mg X.base CX k f fd ps (spD C.K C.cv ms mr G)) (hr:Room k X.A) (hg:Gl X x) (hm:X.mg x=some (.ref f)) (hk:keepIn X.K (.ref f)=true) (hb:Binds X.K fd ps []) (hx:vY CX X C.E)
  (ha:PA X (e::es) (tAr C own as fr)) (hms:ms=as.map QE:=by rfl) (hs:∀ i∈jj as,i∈own:=by decide) (nd:(jj as).Nodup:=by decide) (hf:frA as<=1:=by decide) (hio:∀ i∈C.ox,i∈own:=by exact vZ rfl) (hdb:(x == ("__debug__":Str))=false:=by decide) (he:starEach (e::es) X.env=(false,eval e X.env)::starEach es X.env:=by exact jP rfl)
  (hpl:(backTo pos (starEach es X.env)).any (·.1)=false:=by exact uH rfl):PE X (.Call (.Name x p) (e::es) [] pos) (tE C own mr (qx as G fr)):=by
 subst hms
 exact jJ (qcD F hr hg hm hk hb .nil hx ha hdb he hpl) fun σ H Q h=>Wo hio hs nd hf h
end
structure ItIs (K:Frag) (F:Hp) (J:It) (ds:List D):Prop where
 go:∀ i H,i < ds.length->Same F H->J.go i H
 yld:∀ i Fi H x H' d,ds[i]?=some d->Same F Fi->Same Fi H->J.yld i H x H'->∃ F',Chg No Fi H F' H'/\Same F' H'/\Is K F' x d
 stop:∀ i H,ds.length<=i->Same F H->J.stop i H
def PoI (C:Ct) (own:List Nat) (σ:St) (F H:Hp) (r:Out (List D×Sl)) (R:It->Hp->Prop):Prop:=match r with
 | .ok (ds,ρ')=>∀ J F' H',Rep C.K own F' H' σ ρ'->Chg (OA own σ) F H F' H'->ItIs C.K F' J ds->R J H'
 | .exc c ρ'=>∀ F' H',Same F' H'->Xv C.K C.ox F' H' σ ρ'->Chg (OA own σ) F H F' H'->C.E (C.cv c) none H'
 | .bad=>False
def tIt (C:Ct) (own:List Nat) (f:Sl->Out (List D×Sl)):TI:=fun σ H R=>∃ F ρ,Rep C.K own F H σ ρ/\PoI C own σ F H (f ρ) R
noncomputable def qeG:D->Out (List D)
 | .lst xs=>.ok xs
 | .tup xs=>.ok xs
 | _=>.bad
noncomputable def qhL (f:Sl->Out (D×Sl)):Sl->Out (List D×Sl):=fun ρ=>(f ρ).bind fun p=>(qeG p.1).bind fun ds=>.ok (ds,p.2)
theorem PoI.bindV {m:Mo} {k:D×Sl->Out (List D×Sl)} {Q:It->Hp->Prop} {R:VK} (hp:PoI C own σ F H (o.bind k) Q)
  (h:∀ v F1 H1 d ρ1,Rep C.K own F1 H1 σ ρ1->Chg (OA own σ) F H F1 H1->MoIs C.K m H F1 H1 v d->PoI C own σ F H (k (d,ρ1)) Q->R v H1):Po C own m σ F H o R:=by
 cases o with
 | ok p=>exact fun v F1 H1 rp c mo=>h v F1 H1 p.1 p.2 rp c mo hp
 | exc x=>exact hp
 | bad=>exact hp.elim
variable {fb:Sl->Out (Fl×Sl)} {g:D->Sl->Out Sl} {tg iter:Expr} {xs:List V} {gs:List D->Sl->Out Sl} {fi:Sl->Out (List D×Sl)}
section
theorem qcY {t t':TI} (h:PI X tg e t) (i:∀ σ H Q,t' σ H Q->t σ H Q):PI X tg e t':=⟨fun pins s σ H R I hw=>h pins s σ H R I (i σ H R hw)⟩
theorem qeH (p:SqL K F a xs) (t:IsL K F xs ds):ItIs K F (Itl K a) ds where
 go:=fun i H hi s=>by
  have hx:i < xs.length:=by rw [t.length]; exact hi
  exact ⟨xs,xs[i],s.seq p,by simp [hx]⟩
 yld:=fun i Fi H x H' d e s1 s2 y=>by
  obtain ⟨rfl,y⟩:=y
  obtain ⟨v,h1,h2⟩:=t.getD e
  have q:=y xs ((s1.trans s2).seq p)
  rw [h1] at q
  cases q
  exact ⟨Fi,.refl,s2,h2.mono s1⟩
 stop:=fun i H hi s=>⟨xs,s.seq p,by rw [t.length]; exact hi⟩
theorem qeI (p:SqT K F a xs) (t:IsL K F xs ds):ItIs K F (Itt K a) ds where
 go:=fun i H hi s=>by
  have hx:i < xs.length:=by rw [t.length]; exact hi
  exact ⟨xs,xs[i],qV s p,by simp [hx]⟩
 yld:=fun i Fi H x H' d e s1 s2 y=>by
  obtain ⟨rfl,y⟩:=y
  obtain ⟨v,h1,h2⟩:=t.getD e
  have q:=y xs (qV (s1.trans s2) p)
  rw [h1] at q
  cases q
  exact ⟨Fi,.refl,s2,h2.mono s1⟩
 stop:=fun i H hi s=>⟨xs,qV s p,by rw [t.length]; exact hi⟩
noncomputable def QF (lo:Int) (n:Nat):List D:=(aQ n).map fun k=>.int (lo+(k:Nat))
theorem qeJ {lo:Int}:ItIs K F (Itr lo n) (QF lo n) where
 go:=fun i H hi _=>by
  have:i < n:=by simpa [QF] using hi
  exact this
 yld:=fun i Fi H x H' d e s1 s2 y=>by
  obtain ⟨rfl,rfl⟩:=y
  have e:d=.int (lo+i):=by
   unfold QF at e
   rw [aH] at e
   cases q:(aQ n)[i]? with
   | none=>rw [q] at e; cases e
   | some k=>
    rw [q] at e
    have hk:k=i:=by
     have:=au.mp q
     obtain ⟨_,z⟩:=this
     simpa using z.symm
    subst hk
    exact (aK.inj e).symm
  subst e
  exact ⟨Fi,.refl,s2,.int _⟩
 stop:=fun i H hi _=>by
  have:n<=i:=by simpa [QF] using hi
  exact this
noncomputable def jE (f:Sl->Out (D×Sl)):Sl->Out (List D×Sl):=fun ρ=>(f ρ).bind fun p=>match p.1 with
 | .int j=>if -(2 ^ 62)<=j/\j < 2 ^ 62 then .ok (QF 0 j.toNat,p.2) else .bad
 | _=>.bad
theorem jU {p:Pos} (hg:Gl X "range") (hm:X.mg "range"=none) (h:PE X e (tE C own m f)) (hs:starEach [e] X.env=[(false,eval e X.env)]:=by exact qY rfl):PI X tg (.Call (.Name "range" p) [e] [] pos) (tIt C own (jE f)):=by
 refine qcY (XE hg hm (qT h jM hs) hs) fun σ H R ⟨F,ρ,rp,h⟩=>⟨F,ρ,rp,PoI.bindV h fun v F1 H1 d ρ1 rp1 c1 mo1 h1=>?_⟩
 cases d with
 | int j=>
  obtain rfl:=mo1.top.int
  have h1:PoI C own σ F H (if -(2 ^ 62)<=j/\j < 2 ^ 62 then .ok (QF 0 j.toNat,ρ1) else .bad) R:=h1
  by_cases z:-(2 ^ 62)<=j/\j < 2 ^ 62
  ·rw [if_pos z] at h1
   exact ⟨j,rfl,z.1,z.2,h1 _ F1 H1 rp1 c1 qeJ⟩
  ·rw [if_neg z] at h1; exact h1.elim
 | _=>exact h1.elim
def tGd (C:Ct) (own:List Nat) (g:D->Sl->Out Sl):TG:=fun v σ H Q=>∃ F ρ d,Rep C.K own F H σ ρ/\Is C.K F v d/\∃ ρ',g d ρ=.ok ρ'/\∀ σ',Rep C.K own F H σ' ρ'->(∀ b,OA own σ' b->OA own σ b)->(∀ i∈C.io,σ'[i]?=σ[i]?)->Q σ' H
def qfQ (C:Ct) (own:List Nat) (g:List D->Sl->Out Sl):TGs:=fun vs σ H Q=>∃ F ρ ds,Rep C.K own F H σ ρ/\IsL C.K F vs ds/\∃ ρ',g ds ρ=.ok ρ'/\∀ σ',Rep C.K own F H σ' ρ'->(∀ b,OA own σ' b->OA own σ b)->(∀ i∈C.io,σ'[i]?=σ[i]?)->Q σ' H
theorem qeK {t t':TG} (h:PG X e t) (i:∀ v σ H Q,t' v σ H Q->t v σ H Q):PG X e t':=⟨fun pins s σ H v u Q I r hw=>h pins s σ H v u Q I r (i v σ H Q hw)⟩
theorem qb5 {t t':TGs} (h:PGs X es t) (i:∀ v σ H Q,t' v σ H Q->t v σ H Q):PGs X es t':=⟨fun pins s σ H v u Q I r hw=>h pins s σ H v u Q I r (i v σ H Q hw)⟩
noncomputable def gNm (i:Nat):D->Sl->Out Sl:=fun d ρ=>if i < ρ.length then .ok (ρ.set i (some d)) else .bad
theorem QG {own:List Nat} (h:i∉own):wX own [i]=own:=by
 unfold wX
 rw [dP]
 intro j hj
 simp only [ax,decide_eq_true_eq]
 exact fun z=>h (by rw [<-z]; exact hj)
theorem qB (hN:X.N.Nodup) (hi:X.N[i]?=some x) (hx:Loc X.env.scope x) (ho:i∉own:=by decide) (hio:i∉C.io:=by exact Uv rfl) (hf:X.fn x=true\/X.env.scope.names.lookup x=some .local:=by first | exact .inl rfl | exact .inr rfl):PG X (.Name x pos) (tGd C own (gNm i)):=by
 refine qeK (qcx hN hi hx hf) fun v σ H Q ⟨F,ρ,d,rp,is,ρ',e,k⟩=>?_
 unfold gNm at e
 by_cases z:i < ρ.length
 ·rw [if_pos z] at e
  cases e
  have r2:=rp.put z is
  rw [QG ho] at r2
  refine k _ r2 (fun b q=>?_) fun j hj=>aj fun q=>hio (by rw [q]; exact hj)
  have q':OA (wX own [i]) (σ.set i (some v)) b:=by rw [QG ho]; exact q
  exact q'.put
 ·rw [if_neg z] at e; cases e
noncomputable def kn:List D->Sl->Out Sl
 | [],ρ=>.ok ρ
 | _::_,_=>.bad
noncomputable def qG (g:D->Sl->Out Sl) (gs:List D->Sl->Out Sl):List D->Sl->Out Sl
 | d::ds,ρ=>(g d ρ).bind fun ρ1=>gs ds ρ1
 | [],_=>.bad
theorem kN:PGs X [] (qfQ C own kn):=by
 refine qb5 qcy fun vs σ H Q ⟨F,ρ,ds,rp,is,ρ',e,k⟩=>?_
 cases is with
 | nil=>cases e; exact ⟨rfl,k σ rp (fun _ z=>z) fun _ _=>rfl⟩
 | cons _ _=>cases e
theorem qN (h1:PG X e (tGd C own g)) (h2:PGs X es (qfQ C own gs)) (hs:(assignEach (e::es) X.env).map (·.2)=assign e X.env::(assignEach es X.env).map (·.2):=by rfl):PGs X (e::es) (qfQ C own (qG g gs)):=by
 refine qb5 (qaw h1 h2 hs) fun vs σ H Q ⟨F,ρ,ds,rp,is,ρ',e,k⟩=>?_
 cases is with
 | nil=>cases e
 | @cons v d vs ds a t=>
  have e:(g d ρ).bind (fun ρ1=>gs ds ρ1)=.ok ρ':=e
  cases q:g d ρ with
  | ok ρ1=>
   rw [q] at e
   exact ⟨v,vs,rfl,F,ρ,d,rp,a,ρ1,q,fun σ1 rp1 oa1 io1=>⟨F,ρ1,ds,rp1,t,ρ',e,fun σ2 rp2 oa2 io2=>k σ2 rp2 (fun b z=>oa1 b (oa2 b z)) fun i hi=>(io2 i hi).trans (io1 i hi)⟩⟩
  | exc c=>rw [q] at e; cases e
  | bad=>rw [q] at e; cases e
noncomputable def ko (n:Nat) (gs:List D->Sl->Out Sl):D->Sl->Out Sl
 | .tup ds,ρ=>if ds.length=n then gs ds ρ else .bad
 | _,_=>.bad
theorem wx {k:Nat} (hK:C.K=X.K) (hc:X.calm=true) (h:PGs X es (qfQ C own gs)) (hn:(assignEach es X.env).length=n:=by rfl) (hst:(assignEach es X.env).findIdx? (·.1)=none:=by rfl):PG X (.Tuple es k pos) (tGd C own (ko n gs)):=by
 refine qeK (qd9 hc h hn hst) fun v σ H Q ⟨F,ρ,d,rp,is,ρ',e,k⟩=>?_
 cases is with
 | @tup a xs ds p t=>
  have e:(if ds.length=n then gs ds ρ else .bad)=.ok ρ':=e
  by_cases z:ds.length=n
  ·rw [if_pos z] at e
   exact ⟨a,xs,rfl,by rw [<-hK]; exact qV rp.sub p,by rw [t.length]; exact z,F,ρ,ds,rp,t,ρ',e,k⟩
  ·rw [if_neg z] at e; cases e
 | _=>cases e
noncomputable def qfR (fe:Sl->Out (D×Sl)) (g:D->Sl->Out Sl):Sl->Out (Fl×Sl):=fun ρ=>(fe ρ).bind fun p=>match g p.1 p.2 with
 | .ok ρ'=>.ok (.nx,ρ')
 | _=>.bad
theorem Zq (he:PE X e (tE C own m f)) (hg:PG X tg (tGd C own g)) (hm:m≠.any:=by decide) (hs:swapsWithSole [tg] e pos.line X.env=pure false:=by rfl) (hw:swappedStores [tg] e X.env=pure none:=by rfl)
  (h1:(assignEach [tg] X.env).map (·.2)=[assign tg X.env]:=by rfl):PS X (.Assign [tg] e pos) (tSt C own own (qfR f g)):=by
 refine Qp (qbX (yk he hm) hg hs hw h1) fun D σ H ⟨F,ρ,rp,h⟩=>⟨F,ρ,rp,PoS.bindE h fun v F1 H1 d ρ1 rp1 c1 mo1 h1=>?_⟩
 cases q:g d ρ1 with
 | ok ρ'=>
  simp only [q] at h1
  exact ⟨F1,ρ1,d,rp1,mo1,ρ',q,fun σ' rp' oa io=>h1 σ' F1 H1 ⟨rp',.refl,fun b z=>.inl (oa b z),io⟩⟩
 | exc c=>simp only [q] at h1; exact h1.elim
 | bad=>simp only [q] at h1; exact h1.elim
noncomputable def wY (g:D->Sl->Out Sl) (fb:Sl->Out (Fl×Sl)):List D->Sl->Out (Fl×Sl)
 | [],ρ=>.ok (.nx,ρ)
 | d::ds,ρ=>(g d ρ).plain.bind fun ρ1=>(fb ρ1).bind fun p=>match p.1 with
  | .nx=>wY g fb ds p.2
  | .ct=>wY g fb ds p.2
  | .bk=>.ok (.nx,p.2)
  | .rt v=>.ok (.rt v,p.2)
noncomputable def Wp (fi:Sl->Out (List D×Sl)) (g:D->Sl->Out Sl) (fb:Sl->Out (Fl×Sl)):Sl->Out (Fl×Sl):=fun ρ=>(fi ρ).bind fun p=>wY g fb p.1 p.2
theorem vR {body:List Stmt} {fb:Sl->Out (Fl×Sl)} (hp:PassesOwn (model X.prog X.w) X.A X.env X.xe) (hc:X.calm=true) (hi:PI X tg iter (tIt C own fi)) (hg:PG X tg (tGd C own g))
  (hb:PSs X body (tSt { C with ol:=own } own own fb)) (hs:∀ x,foldedSetIterable iter X.env x=pure x:=by intro _; rfl):PS X (.For tg iter body [] pos) (tSt C own own (Wp fi g fb)):=by
 refine Qp (qec hp hc hi hg hb hs) fun D σ H ⟨F,ρ,rp,h⟩=>⟨F,ρ,rp,?_⟩
 unfold Wp at h
 cases q0:fi ρ with
 | exc c=>rw [q0] at h; exact h
 | bad=>rw [q0] at h; exact h.elim
 | ok p=>
  rw [q0] at h
  obtain ⟨ds,ρ1⟩:=p
  intro J F1 H1 rp1 c1 it
  have h:PoS C own own σ F H (wY g fb ds ρ1) D:=h
  refine ⟨fun i m σ' H'=>m=ds.length - i/\i<=ds.length/\∃ F' ρ',Nx C own own σ F H ρ' σ' F' H'/\Same F1 F'/\PoS C own own σ' F' H' (wY g fb (ds.drop i) ρ') D,⟨ds.length,by simp,bB _,F1,ρ1,.ofE rp1 c1,Same.refl _,h.shift (.ofE rp1 c1)⟩,?_⟩
  rintro i m σ' H' ⟨rfl,hle,F',ρ',nx,gr,po⟩
  by_cases hlt:i < ds.length
  ·have hd:ds.drop i=ds[i]::ds.drop (i+1):=List.drop_eq_getElem_cons hlt
   rw [hd] at po
   have po:PoS C own own σ' F' H' ((g ds[i] ρ').plain.bind fun ρ1=>(fb ρ1).bind fun p=>match p.1 with | .nx=>wY g fb (ds.drop (i+1)) p.2 | .ct=>wY g fb (ds.drop (i+1)) p.2 | .bk=>.ok (.nx,p.2) | .rt v=>.ok (.rt v,p.2)) D:=po
   refine .inr ⟨it.go i H' hlt (gr.trans nx.rep.sub),fun σ2 H2=>ds.length - (i+1)=ds.length - (i+1)/\i+1<=ds.length/\∃ F' ρ',Nx C own own σ F H ρ' σ2 F' H2/\Same F1 F'/\PoS C own own σ2 F' H2 (wY g fb (ds.drop (i+1)) ρ') D,fun σ2 H2 q=>⟨ds.length - (i+1),by omega,q⟩,fun x H2 y=>?_⟩
   obtain ⟨F2,c2,s2,is2⟩:=it.yld i F' H' x H2 ds[i] (by simp [hlt]) gr nx.rep.sub y
   cases q1:g ds[i] ρ' with
   | exc c=>rw [q1] at po; exact po.elim
   | bad=>rw [q1] at po; exact po.elim
   | ok ρ2=>
    rw [q1] at po
    refine ⟨F2,ρ',ds[i],nx.rep.grow c2 s2,is2,ρ2,q1,fun σ3 rp3 oa3 io3=>⟨F2,ρ2,rp3,?_⟩⟩
    have n3:Nx C own own σ' F' H' ρ2 σ3 F2 H2:=⟨rp3,c2.ofNo,fun b z=>.inl (oa3 b z),io3⟩
    have po3:=PoS.shift (show PoS C own own σ' F' H' ((fb ρ2).bind fun p=>match p.1 with | .nx=>wY g fb (ds.drop (i+1)) p.2 | .ct=>wY g fb (ds.drop (i+1)) p.2 | .bk=>.ok (.nx,p.2) | .rt v=>.ok (.rt v,p.2)) D from po) n3
    have up:∀ {ρ4 σ4 F4 H4},Nx { C with ol:=own } own own σ3 F2 H2 ρ4 σ4 F4 H4->Nx C own own σ3 F2 H2 ρ4 σ4 F4 H4:=fun z=>⟨z.rep,z.chg,z.oa,z.io⟩
    cases q2:fb ρ2 with
    | exc c=>rw [q2] at po3; exact po3
    | bad=>rw [q2] at po3; exact po3.elim
    | ok p=>
     rw [q2] at po3
     obtain ⟨fl,ρ4⟩:=p
     cases fl with
     | nx=>exact fun σ4 F4 H4 n4=>⟨rfl,hlt,F4,ρ4,(nx.then n3).then (up n4),(gr.trans c2.grow).trans n4.chg.grow,PoS.shift (show PoS C own own σ3 F2 H2 (wY g fb (ds.drop (i+1)) ρ4) D from po3) (up n4)⟩
     | ct=>exact fun σ4 F4 H4 n4=>⟨rfl,hlt,F4,ρ4,(nx.then n3).then (up n4),(gr.trans c2.grow).trans n4.chg.grow,PoS.shift (show PoS C own own σ3 F2 H2 (wY g fb (ds.drop (i+1)) ρ4) D from po3) (up n4)⟩
     | bk=>exact fun σ4 F4 H4 n4=>po3 σ4 F4 H4 (up n4)
     | rt d=>exact fun v σ4 F4 H4 s io c e mo=>po3 v σ4 F4 H4 s io c e mo
  ·have e:i=ds.length:=by omega
   subst e
   rw [List.drop_length] at po
   exact .inl ⟨it.stop _ H' (ao _) (gr.trans nx.rep.sub),po σ' F' H' (.refl nx.rep)⟩
noncomputable def kq (ft:Sl->Out (Bool×Sl)) (fb:Sl->Out (Fl×Sl)):Nat->Sl->Out (Fl×Sl)
 | 0,_=>.bad
 | n+1,ρ=>(ft ρ).bind fun q=>if q.1=true then (fb q.2).bind fun p=>match p.1 with
  | .nx=>kq ft fb n p.2
  | .ct=>kq ft fb n p.2
  | .bk=>.ok (.nx,p.2)
  | .rt v=>.ok (.rt v,p.2)
  else .ok (.nx,q.2)
theorem Zr {t:Expr} {body:List Stmt} (n:Nat) (hp:PassesOwn (model X.prog X.w) X.A X.env X.xe) (ht:PT X t (tT C own ft)) (hb:PSs X body (tSt { C with ol:=own } own own fb)) :
  PS X (.While t body [] pos) (tSt C own own (kq ft fb n)):=by
 refine Qp (qax hp ht hb) fun D σ H ⟨F,ρ,rp,h⟩=>?_
 refine ⟨fun m σ' H'=>∃ F' ρ',Rep C.K own F' H' σ' ρ'/\PoS C own own σ' F' H' (kq ft fb m ρ') D,⟨n,F,ρ,rp,h⟩,?_⟩
 rintro m σ1 H1 ⟨F1,ρ1,rp1,po⟩
 refine ⟨F1,ρ1,rp1,?_⟩
 cases m with
 | zero=>exact po.elim
 | succ m=>
  have po:PoS C own own σ1 F1 H1 ((ft ρ1).bind fun q=>if q.1=true then (fb q.2).bind fun p=>match p.1 with | .nx=>kq ft fb m p.2 | .ct=>kq ft fb m p.2 | .bk=>.ok (.nx,p.2) | .rt v=>.ok (.rt v,p.2) else .ok (.nx,q.2)) D:=po
  refine PoS.bindT po fun F2 H2 k ρ2 rp2 c2 h2=>?_
  cases k with
  | false=>exact h2 σ1 F2 H2 (.refl rp2)
  | true=>
   refine ⟨fun σ3 H3=>∃ F' ρ',Rep C.K own F' H3 σ3 ρ'/\PoS C own own σ3 F' H3 (kq ft fb m ρ') D,fun σ3 H3 q=>⟨m,by omega,q⟩,F2,ρ2,rp2,?_⟩
   have h2:PoS C own own σ1 F2 H2 ((fb ρ2).bind fun p=>match p.1 with | .nx=>kq ft fb m p.2 | .ct=>kq ft fb m p.2 | .bk=>.ok (.nx,p.2) | .rt v=>.ok (.rt v,p.2)) D:=h2
   have up:∀ {ρ4 σ4 F4 H4},Nx { C with ol:=own } own own σ1 F2 H2 ρ4 σ4 F4 H4->Nx C own own σ1 F2 H2 ρ4 σ4 F4 H4:=fun z=>⟨z.rep,z.chg,z.oa,z.io⟩
   cases q2:fb ρ2 with
   | exc c=>rw [q2] at h2; exact h2
   | bad=>rw [q2] at h2; exact h2.elim
   | ok p=>
    rw [q2] at h2
    obtain ⟨fl,ρ4⟩:=p
    cases fl with
    | nx=>exact fun σ4 F4 H4 n4=>⟨F4,ρ4,n4.rep,PoS.shift (show PoS C own own σ1 F2 H2 (kq ft fb m ρ4) D from h2) (up n4)⟩
    | ct=>exact fun σ4 F4 H4 n4=>⟨F4,ρ4,n4.rep,PoS.shift (show PoS C own own σ1 F2 H2 (kq ft fb m ρ4) D from h2) (up n4)⟩
    | bk=>exact fun σ4 F4 H4 n4=>h2 σ4 F4 H4 (up n4)
    | rt d=>exact fun v σ4 F4 H4 s io c e mo=>h2 v σ4 F4 H4 s io c e mo
end
noncomputable def Ko (cells:List (Str×Addr)):List (Str×NameKind)->List (Str×Addr)->List (Str×Addr)
 | [],acc=>acc
 | (n,k)::r,acc=>if (k == .free)=true then Ko cells r ((n,(cells.lookup n).getD 0)::acc) else Ko cells r acc
variable {env:Env}
theorem ug:∀ (names:List (Str×NameKind)) (acc:List (Str×Addr)),(∀ x∈names,x.2=.free->∃ c,env.cells.lookup x.1=some c) ->
  (forIn names acc fun (x:Str×NameKind) (cs:List (Str×Addr))=>if (x.2 == bt)=true then (do let a <-cellOf env x.1; pure (cc ((x.1,a)::cs))) else pure (cc cs):Sem (List (Str×Addr)))=pure (Ko env.cells names acc)
 | [],acc,_=>rfl
 | (n,k)::r,acc,h=>by
  rw [List.forIn_cons]
  by_cases q:(k == bt)=true
  ·obtain ⟨c,hc⟩:=h (n,k) aw (by simpa using q)
   have e:cellOf env n=pure c:=by unfold cellOf; rw [hc]
   simp only [q,if_true,e]
   have ih:=ug r ((n,c)::acc) (fun x hx=>h x (ae _ hx))
   simp only [Ko,q,if_true,hc,Option.getD_some]
   exact ih
  ·simp only [q,if_false,Ko]
   exact ug r acc (fun x hx=>h x (ae _ hx))
variable {scope:Scope}
theorem QH (h:∀ x∈scope.names,x.2=.free->∃ c,env.cells.lookup x.1=some c):closureFor scope env=pure (Ko env.cells scope.names []):=by
 have:=ug scope.names [] h
 unfold closureFor
 simp only [bind_pure]
 exact this
variable {cells:List (Str×Addr)}
theorem ym:∀ {names:List (Str×NameKind)} {acc:List (Str×Addr)} {x:Str} {c:Addr},(∀ y∈names,y.2=.free->∃ c,cells.lookup y.1=some c)->(Ko cells names acc).lookup x=some c->cells.lookup x=some c\/acc.lookup x=some c
 | [],acc,x,c,_,h=>.inr h
 | (n,k)::r,acc,x,c,hf,h=>by
  unfold Ko at h
  by_cases q:(k == bt)=true
  ·rw [if_pos q] at h
   obtain ⟨c',hc⟩:=hf (n,k) aw (by simpa using q)
   rcases ym (fun y hy=>hf y (ae _ hy)) h with z | z
   ·exact .inl z
   ·rw [dI] at z
    have hc:cells.lookup n=some c':=hc
    by_cases e:(x == n)=true
    ·rw [e] at z
     simp only [hc,Option.getD_some] at z
     have:x=n:=by simpa using e
     subst this
     rw [hc]; exact .inl z
    ·have e:(x == n)=false:=by simpa using e
     rw [e] at z
     exact .inr z
  ·rw [if_neg q] at h
   exact ym (fun y hy=>hf y (ae _ hy)) h
theorem Jl:∀ {names:List (Str×NameKind)} {acc:List (Str×Addr)} {x:Str},(∃ c,acc.lookup x=some c)->∃ c,(Ko cells names acc).lookup x=some c
 | [],_,_,h=>h
 | (n,k)::r,acc,x,h=>by
  unfold Ko
  by_cases q:(k == bt)=true
  ·rw [if_pos q]
   refine Jl ?_
   obtain ⟨c,hc⟩:=h
   rw [dI]
   by_cases e:(x == n)=true
   ·rw [e]; exact ⟨_,rfl⟩
   ·have e:(x == n)=false:=by simpa using e
    rw [e]; exact ⟨c,hc⟩
  ·rw [if_neg q]; exact Jl h
theorem zF:∀ {names:List (Str×NameKind)} {acc:List (Str×Addr)} {x:Str},(x,bt)∈names->∃ c,(Ko cells names acc).lookup x=some c
 | (n,k)::r,acc,x,h=>by
  unfold Ko
  rcases ac.mp h with e | h
  ·cases e
   rw [if_pos (by rfl)]
   refine Jl ?_
   rw [dI,beq_self_eq_true]
   exact ⟨_,rfl⟩
  ·by_cases q:(k == bt)=true
   ·rw [if_pos q]; exact zF h
   ·rw [if_neg q]; exact zF h
noncomputable def jV (X:Cx) (scope:Scope) (N:List Str) (fp:List Addr) (L:Addr) (s:Shared) (H:Hp):Cx:=
 { X with N:=N,s₀:=s,H₀:=H,env:=compEnvC scope (Ko X.env.cells scope.names []) L X.env,outer:=X.stack,stack:=X.stack,ex:=fp,fn:=fun _=>false,pn:=[],xe:=fun _ _=>False }
structure ScOk (X:Cx) (scope:Scope):Prop where
 kind:scope.kind=.function
 nocell:∀ y∈scope.names,y.2≠.cell
 names:∀ y∈scope.names,y.2=.local->scope.names.lookup y.1=some .local
 free:∀ y∈scope.names,y.2=.free->X.env.kindOf y.1=some .cell\/X.env.kindOf y.1=some .free
 frl:∀ y∈scope.names,y.2=.free->scope.names.lookup y.1=some .free
theorem uK {a:α}:∀ {l:List (Str×α)},l.lookup x=some a->(x,a)∈l
 | [],h=>by simp at h
 | (n,k)::r,h=>by
  rw [dI] at h
  by_cases e:(x == n)=true
  ·rw [e] at h
   have h:some k=some a:=h
   cases h
   have:x=n:=by simpa using e
   subst this
   exact aw
  ·have e:(x == n)=false:=by simpa using e
   rw [e] at h
   exact ae _ (uK h)
theorem za {k:NameKind} (h:(relabel scope env).names.lookup x=some k) (hk:k=.cell\/k=.free) (hn:∀ y∈scope.names,y.2≠.cell):(x,bt)∈scope.names:=by
 have m:=uK h
 obtain ⟨⟨n,k'⟩,hm,e⟩:=ay.mp m
 dsimp only at e
 by_cases q:(k' == bt&&env.scope.kind == .function&&env.kindOf n == some .cell)=true
 ·rw [if_pos q] at e
  cases e
  have:k'=.free:=by
   rw [aN,aN] at q
   simpa using q.1.1
  subst this
  exact hm
 ·rw [if_neg q] at e
  cases e
  rcases hk with rfl | rfl
  ·exact absurd rfl (hn _ hm)
  ·exact hm
theorem KO (h:Vis (relabel scope env) x):∃ k,(x,k)∈scope.names:=by
 have go:∀ {k:NameKind},(relabel scope env).names.lookup x=some k->∃ k,(x,k)∈scope.names:=fun {k} h=>by
  obtain ⟨⟨n,k'⟩,hm,e⟩:=ay.mp (uK h)
  dsimp only at e
  by_cases q:(k' == bt&&env.scope.kind == .function&&env.kindOf n == some .cell)=true
  ·rw [if_pos q] at e
   cases e
   exact ⟨_,hm⟩
  ·rw [if_neg q] at e
   cases e
   exact ⟨_,hm⟩
 rcases h with h | h | h <;> exact go h
variable {pins:List (Addr×Obj)} {σc:St} {s s':Shared} {fp:List Addr} {h':Heap}
section
theorem gf (I:Inv X pins σ H s) (S:ScOk X scope):∀ y∈scope.names,y.2=.free->∃ c,X.env.cells.lookup y.1=some c:=fun y hy e=>I.ok.has y.1 (S.free y hy e)
theorem qaT (I:Inv X pins σ H s) (S:ScOk X scope) (hf:∀ b∈fp,VT X pins H b) (ho:∀ b∈fp,b < s.heap.objs.size) (hns:h'.Ns s.heap.objs.size (fun _=>none))
  (hk:∀ b o,s.heap.get? b=some o->h'.get? b=some o) (hl:σc.length=N.length)
  (hσ:∀ (j:Nat) (x:Str) (v:V),N[j]?=some x->σc[j]?=some (some v)->(∃ k,(x,k)∈scope.names)->∃ i:Nat,X.N[i]?=some x/\σ[i]?=some (some v)/\Vis X.env.scope x/\(x,bt)∈scope.names) {t:Nat} :
  Inv (jV X scope N fp s.heap.objs.size s H) [] σc H { s with heap:=h',toks:=t }:=by
 have hfc:=gf I S
 have cl:∀ x c,(Ko X.env.cells scope.names []).lookup x=some c->X.env.cells.lookup x=some c:=fun x c e=>(ym hfc e).resolve_right (by simp)
 have nfs:∀ b∈fp,b∉frs X.stack:=fun b hb z=>by
  obtain ⟨f0,f1,f2,_⟩:=hf b hb
  rcases ac.mp (I.stkSub b z) with e | e
  ·exact f1 e
  ·exact f2 e
 refine ⟨⟨I.ok.mod,?_,I.ok.glob,I.ok.blt,ao _,fun x y c h1 h2=>I.ok.inj x y c (cl x c h1) (cl y c h2),fun x hx=>?_,fun x c h=>absurd h (by show ¬(false=true); exact aY),I.ok.hd,I.ok.frames,.inl rfl,fun b hb=>⟨aA (ho b hb),fun x c e z=>?_⟩,I.bs,bU I.ok.bsz I.sz,fun b o e hb=>?_,nfs,I.stack,I.stkFree⟩,
  rfl,I.bare,Un.kept hk,⟨_,hns,fun j x v e1 e2 e3=>?_⟩,fun x c e=>?_,I.hok.fresh (ao _),fun x c e=>I.freeC x c (cl x c e),fun p hp=>absurd (show p∈([]:List (Addr×Obj)) from hp) (by simp),I.hok.kept hk,hl⟩
 ·exact S.kind
 ·refine zF ?_
  rcases hx with hx | hx
  ·exact za hx (.inl rfl) S.nocell
  ·exact za hx (.inr rfl) S.nocell
 ·exact (hf b hb).2.2.2.2.1 x c (cl x c e) z
 ·rcases (hf b hb).2.2.2.1 with z | z
  ·exact I.ok.noex b o e z
  ·have hlt:=am e
   exact absurd (aD hlt (bU I.ok.bsz z)) (bG _)
 ·obtain ⟨i,g1,g2,g3,g4⟩:=hσ j x v e1 e2 (KO e3)
  obtain ⟨m,hn,hl'⟩:=I.loc
  obtain ⟨u,r,look⟩:=hl' i x v g1 g2 g3
  refine ⟨u,r,?_⟩
  obtain ⟨c0,hc0⟩:=zF (cells:=X.env.cells) (acc:=[]) g4
  have hce:=cl x c0 hc0
  have kd:(jV X scope N fp s.heap.objs.size s H).env.kindOf x=some .cell\/(jV X scope N fp s.heap.objs.size s H).env.kindOf x=some .free\/(jV X scope N fp s.heap.objs.size s H).env.kindOf x=some .local:=by
   rcases e3 with z | z | z
   ·exact .inr (.inr z)
   ·exact .inl z
   ·exact .inr (.inl z)
  rcases look with ⟨k,_⟩ | ⟨k,c,hc,z⟩
  ·rcases S.free _ g4 rfl with q | q
   ·have q:X.env.kindOf x=some .cell:=q
    rw [k] at q; cases q
   ·have q:X.env.kindOf x=some .free:=q
    rw [k] at q; cases q
  ·rw [hce] at hc
   cases hc
   obtain ⟨oc,ho1,ho2⟩:=z
   rcases kd with q | q | q
   ·exact .inr ⟨.inl q,c0,hc0,⟨oc,hk _ _ ho1,ho2⟩⟩
   ·exact .inr ⟨.inr q,c0,hc0,⟨oc,hk _ _ ho1,ho2⟩⟩
   ·refine absurd q ?_
    intro q
    have m2:=uK (show (relabel scope X.env).names.lookup x=some .local from q)
    obtain ⟨⟨n,k'⟩,hm,e⟩:=ay.mp m2
    dsimp only at e
    by_cases qq:(k' == bt&&X.env.scope.kind == .function&&X.env.kindOf n == some .cell)=true
    ·rw [if_pos qq] at e; cases e
    ·rw [if_neg qq] at e
     cases e
     have e1:=S.names _ hm rfl
     have e2:=S.frl _ g4 rfl
     have e1:scope.names.lookup x=some .local:=e1
     have e2:scope.names.lookup x=some .free:=e2
     rw [e1] at e2
     cases e2
 ·obtain ⟨v,oc,ho1,ho2⟩:=I.cell x c (cl x c e)
  exact ⟨v,oc,hk _ _ ho1,ho2⟩
theorem qaU {H1:Hp} {s1:Shared} {L:Addr} (I:Inv X pins σ H s) (hf:∀ b∈fp,VT X pins H b) (J:Inv (jV X scope N fp s.heap.objs.size s H) [] σc H' s') (sb:bD s.heap.objs.size s'.heap h'):Inv X pins σ H' { s' with heap:=h' }:=by
 have hL:H' s.heap.objs.size=none:=J.free
 have ne:∀ b o,s.heap.get? b=some o->b≠s.heap.objs.size:=fun b o e=>aA (am e)
 have U:Un (frs X.stack) fp H H' s.heap s'.heap:=J.base
 refine I.call' (s':={ s' with heap:=h' }) (ch:=fp) J.os ⟨fun b o e n h1 h2=>(sb.2 b (ne b o e)).trans (U.keep b o e n h1 h2),fun b o e n h1 h2=>?_,U.free,fun b o e h2=>?_,U.tups,U.frzs,U.tbls⟩ (fun b u e=>?_) J.bare fun b hb=>?_
 ·obtain ⟨sl,q⟩:=U.slot b o e n h1 h2
  exact ⟨sl,(sb.2 b (ne b o e)).trans q⟩
 ·obtain ⟨o',q⟩:=U.there b o e h2
  exact ⟨o',(sb.2 b (ne b o e)).trans q⟩
 ·refine (J.hok b u e).stay (fun c w hc q=>(sb.2 c ?_).trans q) (fun _ q=>q) fun _ _ q=>q
  rintro rfl
  rcases hc with z | z
  ·rw [<-z,hL] at e; cases e
  ·rw [hL] at z; cases z
 ·obtain ⟨f0,f1,f2,f3,f4,f5⟩:=hf b hb
  exact ⟨f3,f1,f4,f5⟩
end
theorem Jm {prog:Program} {w:World} {A:Around} {R:Result->Shared->Prop} {s:Shared} {elt target iter:Expr} {ifs:List Expr} {scope:Scope} {pos:Pos} {it acc:Value} {env:Env} (I:Nat->Shared->Prop)
  (turn:∀ n s,I n s->wpAny (model prog w) A (pyNext it) (fun r s₁=>match r with
   | none=>R (.ok .next) s₁
   | some v=>wpAny (model prog w) A (letOwnedTupleGo target it v) (fun _ t₁=>wpAny (model prog w) A (assign target env v) (fun _ s₂=>
     wpAny (model prog w) A (forIn ifs true fun c r=>if r=true then do let ok <-isTrue c env (eval c env); pure (cc ok) else pure (cc r)) (fun ok s₃=>
      if ok=true then wpAny (model prog w) A (eval elt env) (fun x s₄=>
       wpAny (model prog w) A (call (.builtin "list.append") [acc,x]) (fun _ s₅=>∃ m,m < n/\I m s₅) (fun _ _=>False) s₄) (fun _ _=>False) s₃
      else ∃ m,m < n/\I m s₃) (fun _ _=>False) s₂) (fun _ _=>False) t₁) (fun _ _=>False) s₁) (fun _ _=>False) s)
  (n:Nat) (h:I n s):codeAny (model prog w) A (.compLoop (.ListComp elt [⟨target,iter,ifs,0⟩] scope pos) 0 it acc env) R s:=by
 have no:∀ {α:Type} {t:Sem α} {Q Q':α->Shared->Prop} {E':Value->Shared->Prop} {s:Shared},wpAny (model prog w) A t Q (fun _ _=>False) s->(∀ a s,Q a s->Q' a s)->wpAny (model prog w) A t Q' E' s:=fun h k=>wpAny_mono h k fun _ _ z=>z.elim
 refine codeAny_loop rfl I (fun n s hI=>?_) n h
 show wpAny _ A ((compTurn (.ListComp elt [⟨target,iter,ifs,0⟩] scope pos) 0 it acc env).onRaise (fun x=>do noteFrame x env; theTreesLotGoes x)) _ _ s
 refine wpAny_noted ?_
 rw [compTurn_list]
 refine wpAny_bind (wpAny_standAt (wpAny_bind (no (turn n s hI) fun r s₁ h₁=>?_)))
 cases r with
 | none=>exact wpAny_pure h₁
 | some v=>
  refine wpAny_bind (no h₁ fun _ t₁ k₁=>wpAny_bind (no k₁ fun _ s₂ h₂=>wpAny_bind (no h₂ fun ok s₃ h₃=>?_)))
  cases ok with
  | false=>exact wpAny_pure ⟨rfl,h₃⟩
  | true=>exact wpAny_bind (wpAny_bind (no h₃ fun x s₄ h₄=>wpAny_bind (no h₄ fun _ s₅ h₅=>wpAny_pure (wpAny_pure ⟨rfl,h₅⟩))))
structure PTs (Y:Cx) (ifs:List Expr) (t:TT):Prop where
 run:∀ (pins:List (Addr×Obj)) (s:Shared) (σ:St) (H:Hp) (Q:Bool->Hp->Prop),Inv Y pins σ H s->t σ H Q ->
  wpAny (model Y.prog Y.w) Y.A (forIn ifs true fun c r=>if r=true then do let ok <-isTrue c Y.env (eval c Y.env); pure (cc ok) else pure (cc r)) (TP Y pins σ Q) Y.xe s
instance {Y:Cx} {ifs:List Expr} {t:TT}:CoeFun (PTs Y ifs t) (fun _=>∀ (pins:List (Addr×Obj)) (s:Shared) (σ:St) (H:Hp) (Q:Bool->Hp->Prop),Inv Y pins σ H s->t σ H Q ->
  wpAny (model Y.prog Y.w) Y.A (forIn ifs true fun c r=>if r=true then do let ok <-isTrue c Y.env (eval c Y.env); pure (cc ok) else pure (cc r)) (TP Y pins σ Q) Y.xe s):=⟨fun h=>h.run⟩
variable {Y:Cx}
theorem qcZ:PTs Y [] (fun _ H Q=>Q true H):=⟨fun _ _ _ H _ I h=>wpAny_tests_nil ⟨H,I,h⟩⟩
theorem Wq {t:TT} (h:PT Y c t):PTs Y [c] t:=⟨fun pins s σ H Q I q=>wpAny_tests_one (h pins s σ H Q I q)⟩
variable {ifs:List Expr} {te:TE} {E:Value->Shared->Prop}
section
variable {it:Addr} {tn:Nat->Heap->Prop} {J:It} {elt:Expr} {g:TG} {tt:TT}
theorem qaV (I:Inv X pins σ H s) (hcalm:X.calm=true) (S:ScOk X scope) (T:Turn X.prog X.w X.K tg J fp it tn) (st0:tn 0 s.heap) (hf:∀ b∈fp,VT X pins H b)
  (hg:∀ fp L s' H',PG (jV X scope N fp L s' H') tg g) (ht:∀ fp L s' H',PTs (jV X scope N fp L s' H') ifs tt) (he:∀ fp L s' H',PE (jV X scope N fp L s' H') elt te) (hl:σc.length=N.length)
  (hσ:∀ (j:Nat) (x:Str) (v:V),N[j]?=some x->σc[j]?=some (some v)->(∃ k,(x,k)∈scope.names)->∃ i:Nat,X.N[i]?=some x/\σ[i]?=some (some v)/\Vis X.env.scope x/\(x,bt)∈scope.names)
  (W:Addr->Nat->Nat->St->Hp->Prop) (Fin:Addr->Hp->Prop) (w0:∀ p,H p=none->∃ m,W p 0 m σc (upd H p (.lst [])))
  (turn:∀ p i m σ1 H1,W p i m σ1 H1->(J.stop i H1/\Fin p H1)\/(J.go i H1/\∀ x H2,J.yld i H1 x H2->g x σ1 H2 fun σ2 H3=>tt σ2 H3 fun b H4=>if b=true then te σ2 H4 fun y H5=>∃ xs,H5 p=some (.lst xs)/\xs.length < sizeLine/\∃ m',m' < m/\W p (i+1) m' σ2 (upd H5 p (.lst (xs++[y]))) else ∃ m',m' < m/\W p (i+1) m' σ2 H4))
  (RR:Value->Addr->Result->Shared->Prop)
  (hRR:∀ p L H' s',Fin p H'->(∃ m,s'.heap.Ns L m)->VT X pins H' L->(∀ h',bD L s'.heap h'->Inv X pins σ H' { s' with heap:=h' })->RR (.ref p) L (.ok .next) s') :
  wpAny (model X.prog X.w) X.A (newList []) (fun acc s₃=>wpAny (model X.prog X.w) X.A (newFunctionEnv scope X.env.globals (Ko X.env.cells scope.names []) [] X.env.qual none .none (some X.env)) (fun cenv s₄=>
   codeAny (model X.prog X.w) X.A (.compStart (.ListComp elt [⟨tg,iter,ifs,0⟩] scope pos) 0 (.ref it) acc { cenv with scope:=relabel scope X.env }) (RR acc cenv.locals) s₄) E s₃) E s:=by
 have hfo:∀ b∈fp,b < s.heap.objs.size:=fun b hb=>let ⟨o,e,_⟩:=T.obj 0 _ st0 b hb; am e
 have hfresh:=I.fresh
 have I3:Inv X pins σ (upd H s.heap.objs.size (.lst [])) { s with heap:=s.heap.push { cls:=.type "list",data:=.seq ([]:List Value).toArray } }:=I.lnew (t':=s.toks) (ys:=[]) (its:=[]) .nil (bB _)
 have hf3:∀ b∈fp,VT X pins (upd H s.heap.objs.size (.lst [])) b:=fun b hb=>⟨by rw [qD (aA (hfo b hb))]; exact (hf b hb).1,(hf b hb).2⟩
 have st3:tn 0 (s.heap.push { cls:=.type "list",data:=.seq ([]:List Value).toArray }):=T.keep 0 _ _ st0 fun b hb o e=>aa _ e
 refine wpAny_newObj_type (wpAny_newFunctionEnv S.nocell (fun y hy=>by simp at hy) (fun h₁ hns₁ hsb₁=>?_) S.kind)
 dsimp only at hns₁ hsb₁ ⊢
 generalize hs3:({ s with heap:=s.heap.push { cls:=.type "list",data:=.seq ([]:List Value).toArray } }:Shared)=s3 at I3
 have e3:s3.heap=s.heap.push { cls:=.type "list",data:=.seq ([]:List Value).toArray }:=by rw [<-hs3]
 rw [<-e3] at hns₁ hsb₁ st3 ⊢
 have keep:∀ b o,s3.heap.get? b=some o->h₁.get? b=some o:=fun b o e=>(hsb₁.2 b (aA (am e))).trans (aa _ e)
 have ho3:∀ b∈fp,b < s3.heap.objs.size:=fun b hb=>by rw [e3,cj]; exact d9 (hfo b hb)
 have J1:Inv (jV X scope N fp s3.heap.objs.size s3 (upd H s.heap.objs.size (.lst []))) [] σc (upd H s.heap.objs.size (.lst [])) { s3 with heap:=h₁,toks:=s.toks+0 }:=
  qaT I3 S hf3 ho3 (by simpa using hns₁) keep hl hσ
 have st4:tn 0 h₁:=T.keep 0 _ _ st3 fun b hb o e=>keep b o e
 have loop:∀ s4:Shared,s4={ s3 with heap:=h₁,toks:=s.toks+0 }->codeAny (model X.prog X.w) X.A (.compLoop (.ListComp elt [⟨tg,iter,ifs,0⟩] scope pos) 0 (.ref it) (.ref s.heap.objs.size) (compEnvC scope (Ko X.env.cells scope.names []) s3.heap.objs.size X.env)) (RR (.ref s.heap.objs.size) s3.heap.objs.size) s4:=by
  rintro s4 rfl
  generalize hY:jV X scope N fp s3.heap.objs.size s3 (upd H s.heap.objs.size (.lst []))=Y at J1
  have eP:Y.prog=X.prog:=by rw [<-hY]; rfl
  have ew:Y.w=X.w:=by rw [<-hY]; rfl
  have eA:Y.A=X.A:=by rw [<-hY]; rfl
  have ee:Y.env=compEnvC scope (Ko X.env.cells scope.names []) s3.heap.objs.size X.env:=by rw [<-hY]; rfl
  have eK:Y.K=X.K:=by rw [<-hY]; rfl
  have ec:Y.calm=true:=by rw [<-hY]; exact hcalm
  have ex:Y.xe=fun _ _=>False:=by rw [<-hY]; rfl
  have hgY:PG Y tg g:=by rw [<-hY]; exact hg fp _ _ _
  have htY:PTs Y ifs tt:=by rw [<-hY]; exact ht fp _ _ _
  have heY:PE Y elt te:=by rw [<-hY]; exact he fp _ _ _
  have stat:∀ {H1:Hp},(∀ b∈fp,H1 b=none)->∀ b∈fp,VT Y [] H1 b:=fun hn b hb=>by
   have q:=J1.ok.exf b (by rw [<-hY]; exact hb)
   refine ⟨hn b hb,q.1,J1.ok.exfs b (by rw [<-hY]; exact hb),.inl (by rw [<-hY]; exact hb),q.2,fun p hp=>?_⟩
   rw [<-hY] at hp
   exact absurd (show p∈([]:List (Addr×Obj)) from hp) (by simp)
  obtain ⟨m0,hm0⟩:=w0 s.heap.objs.size hfresh
  refine Jm (fun n s'=>∃ i σ1 H1,Inv Y [] σ1 H1 s'/\tn i s'.heap/\(∀ b∈fp,H1 b=none)/\W s.heap.objs.size i n σ1 H1) ?_ m0 ⟨0,σc,_,J1,st4,fun b hb=>(hf3 b hb).1,hm0⟩
  rintro n s5 ⟨i,σ1,H1,J5,st5,fr5,w5⟩
  rw [<-eP,<-ew,<-eA,<-ee]
  have TY:Turn Y.prog Y.w Y.K tg J fp it tn:=by rw [eP,ew,eK]; exact T
  rcases turn _ i n σ1 H1 w5 with ⟨stop,fin⟩ | ⟨go,step⟩
  ·refine thn (TY.done Y rfl rfl rfl ec i [] s5 σ1 H1 _ J5 (stat fr5) st5 stop) fun r s6 ⟨hr,J6⟩=>?_
   subst hr
   have J6':Inv (jV X scope N fp s3.heap.objs.size s3 (upd H s.heap.objs.size (.lst []))) [] σ1 H1 s6:=by rw [hY]; exact J6
   exact hRR _ _ H1 s6 fin (let ⟨m,hn,_⟩:=J6'.loc; ⟨m,hn⟩) (I3.fpOk (ao _) J6'.free) fun h' sb=>qaU (s1:=s6) (H1:=H1) (L:=0) I3 hf3 J6' sb
  ·refine thn (TY.item Y rfl rfl rfl ec i [] s5 σ1 H1 _ J5 (stat fr5) st5 go) fun r s6 ⟨u,hr,h6⟩=>?_
   subst hr
   refine thn h6 fun _ s7 ⟨x,H7,J7,r7,y7,st7,fr7⟩=>?_
   have J7':=J7.pinned (stat fr7) (TY.obj _ _ st7)
   have back:∀ {σ9:St} {H9:Hp} {s9:Shared},Inv Y ([]++Kv fp s7.heap) σ9 H9 s9->(∃ m',m' < n/\W s.heap.objs.size (i+1) m' σ9 H9)->∃ m,m < n/\∃ i σ1 H1,Inv Y [] σ1 H1 s9/\tn i s9.heap/\(∀ b∈fp,H1 b=none)/\W s.heap.objs.size i m σ1 H1:=fun {σ9 H9 s9} J9 ⟨m',hm,w9⟩=>by
    refine ⟨m',hm,i+1,σ9,H9,J9.unpinned,TY.keep _ _ _ st7 fun b hb o e=>(J9.pin (b,o) (aM _ (aM _ (uG hb e)))).1,fun b hb=>?_,w9⟩
    obtain ⟨o,e,d⟩:=TY.obj _ _ st7 b hb
    exact (J9.pin (b,o) (aM _ (aM _ (uG hb e)))).2.1
   rw [<-ex]
   refine thn (hgY _ s7 σ1 H7 x u _ J7' r7 (step x H7 y7)) fun _ s8 ⟨σ8,H8,J8,q8⟩=>?_
   refine thn (htY _ s8 σ8 H8 _ J8 q8) fun ok s9 ⟨H9,J9,q9⟩=>?_
   cases ok with
   | false=>exact back J9 q9
   | true=>
    refine thn (heY _ s9 σ8 H9 _ J9 q9) fun v s10 ⟨y,H10,J10,r10,xs,hx,hlen,q10⟩=>?_
    exact thn (KA _ s10 σ8 H10 (.ref s.heap.objs.size) [y] (.ref s.heap.objs.size) [v] (fun _ H11=>∃ m',m' < n/\W s.heap.objs.size (i+1) m' σ8 H11) J10 rfl (.cons r10 .nil) ⟨_,xs,y,rfl,rfl,hx,hlen,q10⟩) fun _ s11 ⟨_,H11,J11,_,q11⟩=>back J11 q11
 have e4:({ heap:=h₁,gens:=s.gens,drawn:=s.drawn,toks:=s.toks+([]:List (Str×Value)).length,os:=s.os }:Shared)={ s3 with heap:=h₁,toks:=s.toks+0 }:=by rw [<-hs3]; rfl
 exact codeAny_compStart_list (loop _ e4) (T.self _ 0 _ _ _ st4 (loop _ e4))
end
noncomputable def kO (nt:Nat) (cap:List Nat) (ρ:List (Option α)):List (Option α):=aE nt none++cap.map fun k=>(ρ[k]?).getD none
noncomputable def yn (own:List Nat):Nat->List Nat->List Nat
 | _,[]=>[]
 | n,k::cap=>if k∈own then n::yn own (n+1) cap else yn own (n+1) cap
noncomputable def ioC (nt len:Nat):List Nat:=(aQ len).map (nt + ·)
noncomputable def jR (own:List Nat) (ρc:Sl):Nat->List Nat->Sl->Sl
 | _,[],ρ=>ρ
 | n,k::cap,ρ=>if k∈own then jR own ρc (n+1) cap (ρ.set k ((ρc[n]?).getD none)) else jR own ρc (n+1) cap ρ
variable {nt:Nat} {cap:List Nat}
theorem get_cap {ρ:List (Option α)} {d:α}:(kO nt cap ρ)[i]?=some (some d)↔∃ j k,i=nt+j/\cap[j]?=some k/\ρ[k]?=some (some d):=by
 unfold kO
 constructor
 ·intro h
  by_cases hi:i < nt
  ·rw [cr (by simpa using hi),bg] at h
   split at h <;> cases h
  ·rw [bI (by simpa using hi),c6,aH] at h
   cases q:cap[i - nt]? with
   | none=>rw [q] at h; cases h
   | some k=>
    rw [q] at h
    have h:(ρ[k]?).getD none=some d:=aK.inj h
    refine ⟨i - nt,k,by omega,q,?_⟩
    cases q2:ρ[k]? with
    | none=>rw [q2] at h; cases h
    | some o=>rw [q2] at h; exact congrArg some h
 ·rintro ⟨j,k,rfl,h1,h2⟩
  rw [bI (by simp),c6,aH,show nt+j - nt=j by omega,h1]
  simp [h2]
theorem mem_ownC {own:List Nat}:∀ {n:Nat} {cap:List Nat} {i:Nat},i∈yn own n cap↔∃ j k,i=n+j/\cap[j]?=some k/\k∈own
 | n,[],i=>by simp [yn]
 | n,k::cap,i=>by
  have ih:=@mem_ownC own (n+1) cap i
  unfold yn
  by_cases hk:k∈own
  ·rw [if_pos hk,ac,ih]
   constructor
   ·rintro (rfl | ⟨j,k',e,h1,h2⟩)
    ·exact ⟨0,k,rfl,rfl,hk⟩
    ·exact ⟨j+1,k',by omega,by simpa using h1,h2⟩
   ·rintro ⟨j,k',e,h1,h2⟩
    cases j with
    | zero=>exact .inl (by omega)
    | succ j=>exact .inr ⟨j,k',by omega,by simpa using h1,h2⟩
  ·rw [if_neg hk,ih]
   constructor
   ·rintro ⟨j,k',e,h1,h2⟩
    exact ⟨j+1,k',by omega,by simpa using h1,h2⟩
   ·rintro ⟨j,k',e,h1,h2⟩
    cases j with
    | zero=>simp at h1; subst h1; exact absurd h2 hk
    | succ j=>exact ⟨j,k',by omega,by simpa using h1,h2⟩
theorem mem_ioC {len:Nat}:i∈ioC nt len↔∃ j,j < len/\i=nt+j:=by
 unfold ioC
 rw [ay]
 constructor
 ·rintro ⟨j,h1,h2⟩; exact ⟨j,cN.mp h1,h2.symm⟩
 ·rintro ⟨j,h1,h2⟩; exact ⟨j,cN.mpr h1,h2.symm⟩
variable {ρc:Sl}
theorem xu:∀ {n:Nat} {cap:List Nat} {ρ:Sl},(jR own ρc n cap ρ).length=ρ.length
 | _,[],_=>rfl
 | n,k::cap,ρ=>by
  unfold jR
  by_cases hk:k∈own
  ·rw [if_pos hk,xu,cX]
  ·rw [if_neg hk,xu]
theorem kZ:∀ {n:Nat} {cap:List Nat} {ρ:Sl} {i:Nat},¬(i∈cap/\i∈own)->(jR own ρc n cap ρ)[i]?=ρ[i]?
 | _,[],_,_,_=>rfl
 | n,k::cap,ρ,i,h=>by
  unfold jR
  have h':¬(i∈cap/\i∈own):=fun z=>h ⟨ae _ z.1,z.2⟩
  by_cases hk:k∈own
  ·rw [if_pos hk,kZ h',aj (fun e=>h ⟨ac.mpr (.inl e.symm),by rw [<-e]; exact hk⟩)]
  ·rw [if_neg hk,kZ h']
theorem yG:∀ {n:Nat} {cap:List Nat} {ρ:Sl} {j k:Nat} {d:D},cap.Nodup->cap[j]?=some k->k∈own->k < ρ.length->ρc[n+j]?=some (some d)->(jR own ρc n cap ρ)[k]?=some (some d)
 | _,[],_,_,_,_,_,h,_,_,_=>by simp at h
 | n,k0::cap,ρ,0,k,d,nd,h,hk,hl,e=>by
  simp at h; subst h
  obtain ⟨n1,n2⟩:=aL.mp nd
  unfold jR
  rw [if_pos hk,kZ (fun z=>n1 z.1),aC hl]
  have e:ρc[n]?=some (some d):=e
  rw [e]; rfl
 | n,k0::cap,ρ,j+1,k,d,nd,h,hk,hl,e=>by
  obtain ⟨n1,n2⟩:=aL.mp nd
  have h:cap[j]?=some k:=by simpa using h
  have e:ρc[n+1+j]?=some (some d):=by rw [show n+1+j=n+(j+1) by omega]; exact e
  unfold jR
  by_cases hk0:k0∈own
  ·rw [if_pos hk0]; exact yG n2 h hk (by rw [cX]; exact hl) e
  ·rw [if_neg hk0]; exact yG n2 h hk hl e
section
theorem Wr {ρ:List (Option α)}:(kO nt cap ρ).length=nt+cap.length:=by simp [kO]
theorem Zs {l:List Nat} (h:l.Nodup) {j k:Nat} (a:l[i]?=some k) (b:l[j]?=some k):i=j:=by
 obtain ⟨h1,e1⟩:=au.mp a
 obtain ⟨h2,e2⟩:=au.mp b
 exact (ez h).mp (e1.trans e2.symm)
theorem qc0 (rp:Rep K own F H σ ρ) (nd:cap.Nodup):Rep K (yn own nt cap) F H (kO nt cap σ) (kO nt cap ρ) where
 sub:=rp.sub
 len:=by rw [Wr,Wr]
 val:=fun i d hi e=>by
  obtain ⟨j,k,rfl,h1,h2⟩:=get_cap.mp e
  obtain ⟨v,g1,g2⟩:=rp.val k d (fun z=>hi (mem_ownC.mpr ⟨j,k,rfl,h1,z⟩)) h2
  exact ⟨v,get_cap.mpr ⟨j,k,rfl,h1,g1⟩,g2⟩
 ow:=fun i d hi e=>by
  obtain ⟨j,k,rfl,h1,h2⟩:=get_cap.mp e
  obtain ⟨j',k',e',h1',h2'⟩:=mem_ownC.mp hi
  have:j=j':=by omega
  subst this
  rw [h1] at h1'; cases h1'
  obtain ⟨a,g1,g2⟩:=rp.ow k d h2' h2
  exact ⟨a,get_cap.mpr ⟨j,k,rfl,h1,g1⟩,g2⟩
 opn:=fun i hi=>by
  obtain ⟨j,k,rfl,h1,h2⟩:=mem_ownC.mp hi
  obtain ⟨d,e⟩:=rp.opn k h2
  exact ⟨d,get_cap.mpr ⟨j,k,rfl,h1,e⟩⟩
 dis:=fun i i' a hi hi' e e'=>by
  obtain ⟨j,k,rfl,h1,h2⟩:=mem_ownC.mp hi
  obtain ⟨j',k',rfl,h1',h2'⟩:=mem_ownC.mp hi'
  obtain ⟨x,y,q1,q2,q3⟩:=get_cap.mp e
  obtain ⟨x',y',q1',q2',q3'⟩:=get_cap.mp e'
  have:x=j:=by omega
  subst this
  have:x'=j':=by omega
  subst this
  rw [h1] at q2; cases q2
  rw [h1'] at q2'; cases q2'
  have e:=rp.dis k k' a h2 h2' q3 q3'
  subst e
  rw [Zs nd h1 h1']
theorem Zu (hio:∀ i∈ioC nt cap.length,σ1[i]?=(kO nt cap σ)[i]?) (h:OA (yn own nt cap) σ1 b):OA own σ b:=by
 obtain ⟨i,hi,e⟩:=h
 obtain ⟨j,k,rfl,h1,h2⟩:=mem_ownC.mp hi
 rw [hio _ (mem_ioC.mpr ⟨j,(au.mp h1).1,rfl⟩)] at e
 obtain ⟨x,y,q1,q2,q3⟩:=get_cap.mp e
 have:x=j:=by omega
 subst this
 rw [h1] at q2; cases q2
 exact ⟨k,h2,q3⟩
theorem Zv (rp:Rep K own F H σ ρ) (nd:cap.Nodup) (rp1:Rep K (yn own nt cap) F' H' σ1 ρ1) (hio:∀ i∈ioC nt cap.length,σ1[i]?=(kO nt cap σ)[i]?) (c:Chg (OA (yn own nt cap) σ1) F H F' H'):Rep K own F' H' σ (jR own ρ1 nt cap ρ) where
 sub:=rp1.sub
 len:=by rw [xu]; exact rp.len
 val:=fun i d hi e=>by
  rw [kZ (fun z=>hi z.2)] at e
  obtain ⟨v,h1,h2⟩:=rp.val i d hi e
  exact ⟨v,h1,h2.mono c.grow⟩
 ow:=fun i d hi e=>by
  by_cases q:i∈cap
  ·obtain ⟨j,hj⟩:=List.getElem?_of_mem q
   have hm:nt+j∈yn own nt cap:=mem_ownC.mpr ⟨j,i,rfl,hj,hi⟩
   obtain ⟨d',hd'⟩:=rp1.opn _ hm
   obtain ⟨d0,hd0⟩:=rp.opn i hi
   rw [yG nd hj hi (au.mp hd0).1 hd'] at e
   cases e
   obtain ⟨a,h1,h2⟩:=rp1.ow _ _ hm hd'
   rw [hio _ (mem_ioC.mpr ⟨j,(au.mp hj).1,rfl⟩)] at h1
   obtain ⟨x,y,q1,q2,q3⟩:=get_cap.mp h1
   have:x=j:=by omega
   subst this
   rw [hj] at q2; cases q2
   exact ⟨a,q3,h2⟩
  ·rw [kZ (fun z=>q z.1)] at e
   obtain ⟨a,h1,h2,h3⟩:=rp.ow i d hi e
   have na:¬OA (yn own nt cap) σ1 a:=fun z=>by
    obtain ⟨i',hi',e'⟩:=z
    obtain ⟨j,k,rfl,g1,g2⟩:=mem_ownC.mp hi'
    rw [hio _ (mem_ioC.mpr ⟨j,(au.mp g1).1,rfl⟩)] at e'
    obtain ⟨x,y,q1,q2,q3⟩:=get_cap.mp e'
    have:x=j:=by omega
    subst this
    rw [g1] at q2; cases q2
    have e:=rp.dis i k a hi g2 h1 q3
    subst e
    exact q (cA g1)
   refine ⟨a,h1,?_,h3.grow c.grow fun o z=>c.keep a o z na⟩
   cases qq:F' a with
   | none=>rfl
   | some u=>
    rcases c.new a (by rw [qq]; simp) with z | z | z
    ·exact absurd h2 z
    ·exact absurd z h3.there
    ·exact absurd z na
 opn:=fun i hi=>by
  by_cases q:i∈cap
  ·obtain ⟨j,hj⟩:=List.getElem?_of_mem q
   have hm:nt+j∈yn own nt cap:=mem_ownC.mpr ⟨j,i,rfl,hj,hi⟩
   obtain ⟨d',hd'⟩:=rp1.opn _ hm
   obtain ⟨d0,hd0⟩:=rp.opn i hi
   exact ⟨d',yG nd hj hi (au.mp hd0).1 hd'⟩
  ·rw [kZ (fun z=>q z.1)]
   exact rp.opn i hi
 dis:=rp.dis
end
noncomputable def gh (g:D->Sl->Out Sl) (ft:Sl->Out (Bool×Sl)) (fe:Sl->Out (D×Sl)) (d:D) (ρ:Sl):Out (Option D×Sl):=
 (g d ρ).plain.bind fun ρ1=>(ft ρ1).plain.bind fun q=>if q.1=true then (fe q.2).plain.bind fun r=>.ok (some r.1,r.2) else .ok (none,q.2)
noncomputable def jS (g:D->Sl->Out Sl) (ft:Sl->Out (Bool×Sl)) (fe:Sl->Out (D×Sl)):List D->Sl->Out (List D×Sl)
 | [],ρ=>.ok ([],ρ)
 | d::ds,ρ=>(gh g ft fe d ρ).bind fun p=>(jS g ft fe ds p.2).bind fun q=>.ok (p.1.toList++q.1,q.2)
noncomputable def jw (own:List Nat) (nt:Nat) (cap:List Nat) (fi:Sl->Out (List D×Sl)) (g:D->Sl->Out Sl) (ft:Sl->Out (Bool×Sl)) (fe:Sl->Out (D×Sl)):Sl->Out (D×Sl):=fun ρ=>(fi ρ).bind fun p=>
 if p.1.length<=sizeLine then (jS g ft fe p.1 (kO nt cap p.2)).bind fun q=>.ok (.lst q.1,jR own q.2 nt cap p.2) else .bad
noncomputable def ctC (C:Ct) (nt len:Nat):Ct:=⟨C.K,C.cv,fun _ _ _=>False,ioC nt len,.sh,[],[],fun _ h=>absurd h (by simp)⟩
noncomputable def ftT:Sl->Out (Bool×Sl):=fun ρ=>.ok (true,ρ)
theorem ja:PTs Y [] (tT C own ftT):=⟨fun pins s σ H Q I ⟨F,ρ,rp,h⟩=>qcZ pins s σ H Q I (h F H rp .refl)⟩
structure CW (C:Ct) (own:List Nat) (nt:Nat) (cap:List Nat) (σ:St) (F H F0:Hp) (g:D->Sl->Out Sl) (ft:Sl->Out (Bool×Sl)) (fe:Sl->Out (D×Sl)) (ds ys:List D) (ρe:Sl) (p:Addr) (i:Nat) (σ1:St) (H1:Hp) (F1:Hp) (ρi:Sl) (accD:List D) (xs:List V) (rest:List D):Prop where
 rep:Rep C.K (yn own nt cap) F1 H1 σ1 ρi
 io:∀ i∈ioC nt cap.length,σ1[i]?=(kO nt cap σ)[i]?
 chg:Chg (OA (yn own nt cap) σ1) F H F1 H1
 gr:Same F0 F1
 at_:H1 p=some (.lst xs)
 nF:F1 p=none
 is:IsL C.K F1 xs accD
 le:accD.length<=i
 run:jS g ft fe (ds.drop i) ρi=.ok (rest,ρe)
 all:accD++rest=ys
variable {ρe:Sl}
theorem YN {rest:List D} (h:jS g ft fe (d::ds) ρ=.ok (rest,ρe)) :
  ∃ ρ1,g d ρ=.ok ρ1/\∃ b ρ2,ft ρ1=.ok (b,ρ2)/\((b=true/\∃ y ρ3 r,fe ρ2=.ok (y,ρ3)/\jS g ft fe ds ρ3=.ok (r,ρe)/\rest=y::r)\/(b=false/\jS g ft fe ds ρ2=.ok (rest,ρe))):=by
 unfold jS gh at h
 cases q1:g d ρ with
 | exc c=>rw [q1] at h; cases h
 | bad=>rw [q1] at h; cases h
 | ok ρ1=>
  rw [q1] at h
  refine ⟨ρ1,rfl,?_⟩
  simp only [Out.plain,Out.ok_bind] at h
  cases q2:ft ρ1 with
  | exc c=>rw [q2] at h; cases h
  | bad=>rw [q2] at h; cases h
  | ok p=>
   obtain ⟨b,ρ2⟩:=p
   rw [q2] at h
   refine ⟨b,ρ2,rfl,?_⟩
   simp only [Out.plain,Out.ok_bind] at h
   cases b with
   | true=>
    refine .inl ⟨rfl,?_⟩
    simp only [if_true] at h
    cases q3:fe ρ2 with
    | exc c=>rw [q3] at h; cases h
    | bad=>rw [q3] at h; cases h
    | ok p=>
     obtain ⟨y,ρ3⟩:=p
     rw [q3] at h
     simp only [Out.plain,Out.ok_bind] at h
     cases q4:jS g ft fe ds ρ3 with
     | exc c=>rw [q4] at h; cases h
     | bad=>rw [q4] at h; cases h
     | ok p=>
      obtain ⟨r,ρ4⟩:=p
      rw [q4] at h
      simp only [Out.ok_bind] at h
      cases h
      exact ⟨y,ρ3,r,rfl,q4,rfl⟩
   | false=>
    refine .inr ⟨rfl,?_⟩
    simp only [Bool.false_eq_true,if_false,Out.ok_bind] at h
    cases q4:jS g ft fe ds ρ2 with
    | exc c=>rw [q4] at h; cases h
    | bad=>rw [q4] at h; cases h
    | ok p=>
     obtain ⟨r,ρ4⟩:=p
     rw [q4] at h
     simp only [Out.ok_bind] at h
     cases h
     rfl
section
variable {elt:Expr} {me:Mo}
structure CapOk (X:Cx) (scope:Scope) (N:List Str) (nt:Nat) (cap:List Nat):Prop where
 nd:cap.Nodup
 len:N.length=nt+cap.length
 at_:∀ (j k:Nat),cap[j]?=some k->∃ x,N[nt+j]?=some x/\X.N[k]?=some x/\((Vis X.env.scope x/\(x,bt)∈scope.names)\/∀ k',(x,k')∉scope.names)
theorem KP {F:Hp} {ρ1:Sl} {it:Addr} {fp:List Addr} {tn:Nat->Heap->Prop} {J:It} {E:Value->Shared->Prop} {ds ys:List D} {ρe:Sl} (I:Inv X pins σ H s) (hcalm:X.calm=true) (S:ScOk X scope) (CO:CapOk X scope N nt cap)
  (T:Turn X.prog X.w X.K tg J fp it tn) (st0:tn 0 s.heap) (hf:∀ b∈fp,VT X pins H b) (rp:Rep C.K own F H σ ρ1) (itI:ItIs C.K F J ds) (hz:ds.length<=sizeLine)
  (hg:∀ fp L s' H',PG (jV X scope N fp L s' H') tg (tGd (ctC C nt cap.length) (yn own nt cap) g)) (ht:∀ fp L s' H',PTs (jV X scope N fp L s' H') ifs (tT (ctC C nt cap.length) (yn own nt cap) ft))
  (he:∀ fp L s' H',PE (jV X scope N fp L s' H') elt (tE (ctC C nt cap.length) (yn own nt cap) me fe)) (hme:me≠.any)
  (hrun:jS g ft fe ds (kO nt cap ρ1)=.ok (ys,ρe)) (RR:Value->Addr->Result->Shared->Prop)
  (hRR:∀ p L s' F' H',H p=none->Rep C.K own F' H' σ (jR own ρe nt cap ρ1)->Chg (OA own σ) F H F' H'->F' p=none->OwnIs C.K F' H' p (.lst ys)->(∃ m,s'.heap.Ns L m)->VT X pins H' L->(∀ h',bD L s'.heap h'->Inv X pins σ H' { s' with heap:=h' })->RR (.ref p) L (.ok .next) s') :
  wpAny (model X.prog X.w) X.A (newList []) (fun acc s₃=>wpAny (model X.prog X.w) X.A (newFunctionEnv scope X.env.globals (Ko X.env.cells scope.names []) [] X.env.qual none .none (some X.env)) (fun cenv s₄=>
   codeAny (model X.prog X.w) X.A (.compStart (.ListComp elt [⟨tg,iter,ifs,0⟩] scope pos) 0 (.ref it) acc { cenv with scope:=relabel scope X.env }) (RR acc cenv.locals) s₄) E s₃) E s:=by
 have oaH:∀ {σ1:St} {b:Addr},(∀ i∈ioC nt cap.length,σ1[i]?=(kO nt cap σ)[i]?)->OA (yn own nt cap) σ1 b->H b≠none:=fun hio z=>(rp.OA_there (Zu hio z)).1
 refine qaV (σc:=kO nt cap σ) I hcalm S T st0 hf hg ht (fun fp L s' H'=>yk (he fp L s' H') hme) (by rw [Wr,CO.len]) (fun j x v e1 e2 e3=>?_)
  (fun p i m σ1 H1=>H p=none/\m=ds.length - i/\i<=ds.length/\∃ F1 ρi accD xs rest,CW C own nt cap σ F H F g ft fe ds ys ρe p i σ1 H1 F1 ρi accD xs rest)
  (fun p H1=>H p=none/\∃ σ1 F1 xs,Rep C.K (yn own nt cap) F1 H1 σ1 ρe/\(∀ i∈ioC nt cap.length,σ1[i]?=(kO nt cap σ)[i]?)/\Chg (OA (yn own nt cap) σ1) F H F1 H1/\H1 p=some (.lst xs)/\F1 p=none/\IsL C.K F1 xs ys) (fun p hp=>?_) ?_ RR ?_
 ·obtain ⟨j',k,rfl,h1,h2⟩:=get_cap.mp e2
  obtain ⟨y,g1,g2,g3⟩:=CO.at_ j' k h1
  rw [g1] at e1; cases e1
  obtain ⟨k',hk'⟩:=e3
  rcases g3 with ⟨g3,g4⟩ | g3
  ·exact ⟨k,g2,h2,g3,g4⟩
  ·exact absurd hk' (g3 k')
 ·obtain ⟨r1,c1,hF⟩:=Zl (C:=C) (u:=.lst []) (qc0 (nt:=nt) rp CO.nd) hp
  exact ⟨ds.length,hp,by simp,bB _,F,kO nt cap ρ1,[],[],ys,r1,fun _ _=>rfl,c1.ofNo,Same.refl _,qw,hF,.nil,ao _,by simpa using hrun,rfl⟩
 ·rintro p i m σ1 H1 ⟨hp,rfl,hle,F1,ρi,accD,xs,rest,w⟩
  by_cases hlt:i < ds.length
  ·have hd:ds.drop i=ds[i]::ds.drop (i+1):=List.drop_eq_getElem_cons hlt
   have run:=w.run
   rw [hd] at run
   obtain ⟨ρa,ea,b,ρb,eb,hrest⟩:=YN run
   have sub1:Same F H1:=w.gr.trans w.rep.sub
   refine .inr ⟨itI.go i H1 hlt sub1,fun x H2 y=>?_⟩
   obtain ⟨F2,c2,s2,is2⟩:=itI.yld i F1 H1 x H2 ds[i] (by simp [hlt]) w.gr w.rep.sub y
   have rp2:=w.rep.grow c2 s2
   have nop:∀ {σ9:St},(∀ i∈ioC nt cap.length,σ9[i]?=(kO nt cap σ)[i]?)->¬OA (yn own nt cap) σ9 p:=fun hio z=>oaH hio z hp
   have keepP:∀ {A:Addr->Prop} {Fa Ha Fb Hb:Hp} {zs:List V},Chg A Fa Ha Fb Hb->¬A p->Ha p=some (.lst zs)->Fa p=none->Hb p=some (.lst zs)/\Fb p=none:=fun {A Fa Ha Fb Hb zs} c na e1 e2=>by
    refine ⟨c.keep p _ e1 na,?_⟩
    cases q:Fb p with
    | none=>rfl
    | some u=>
     rcases c.new p (by rw [q]; simp) with z | z | z
     ·exact absurd e2 z
     ·rw [e1] at z; cases z
     ·exact absurd z na
   obtain ⟨at2,nF2⟩:=keepP c2 (fun z=>z) w.at_ w.nF
   refine ⟨F2,ρi,ds[i],rp2,is2,ρa,ea,fun σ3 rp3 oa3 io3=>?_⟩
   have io3':∀ i∈ioC nt cap.length,σ3[i]?=(kO nt cap σ)[i]?:=fun i hi=>(io3 i hi).trans (w.io i hi)
   refine ⟨F2,ρa,rp3,?_⟩
   rw [eb]
   intro F4 H4 rp4 c4
   obtain ⟨at4,nF4⟩:=keepP c4 (nop io3') at2 nF2
   have chg4:Chg (OA (yn own nt cap) σ3) F H F4 H4:=by
    have q1:Chg (OA own σ) F H F1 H1:=w.chg.mono fun b z=>Zu w.io z
    have mv:∀ {b},OA (yn own nt cap) σ1 b->OA (yn own nt cap) σ3 b:=fun {b} z=>by
     obtain ⟨i',hi',e'⟩:=z
     obtain ⟨j,k,rfl,g1,g2⟩:=mem_ownC.mp hi'
     have hm:nt+j∈ioC nt cap.length:=mem_ioC.mpr ⟨j,(au.mp g1).1,rfl⟩
     exact ⟨nt+j,hi',by rw [io3' _ hm,<-w.io _ hm]; exact e'⟩
    exact ((w.chg.mono fun b z=>mv z).trans' c2.ofNo).trans' c4
   have gr4:Same F F4:=(w.gr.trans c2.grow).trans c4.grow
   have is4:IsL C.K F4 xs accD:=(w.is.mono c2.grow).mono c4.grow
   rcases hrest with ⟨rfl,y',ρc,r,ec,er,hr⟩ | ⟨rfl,er⟩
   ·rw [if_pos rfl]
    refine ⟨F4,ρb,rp4,?_⟩
    rw [ec]
    intro v F5 H5 rp5 c5 mo5
    obtain ⟨at5,nF5⟩:=keepP c5 (nop io3') at4 nF4
    have hlen:xs.length=accD.length:=is4.length
    refine ⟨xs,at5,by have:=w.le; omega,ds.length - (i+1),by omega,hp,rfl,hlt,F5,ρc,accD++[y'],xs++[v],r,?_⟩
    have cp:Chg (fun b=>b=p) F5 H5 F5 (upd H5 p (.lst (xs++[v]))):=⟨fun b o e n=>by rw [qD n]; exact e,fun b e=>by
     by_cases q:b=p
     ·rw [q,qw]; simp
     ·rw [qD q]; exact e,Same.refl _,fun b e=>.inl e⟩
    have sb5:Same F5 (upd H5 p (.lst (xs++[v]))):=fun b o e=>by rw [qD (qK e nF5)]; exact rp5.sub b o e
    have rp6:Rep C.K (yn own nt cap) F5 (upd H5 p (.lst (xs++[v]))) σ3 ρc:=by
     refine ⟨sb5,rp5.len,rp5.val,fun i d hi e=>?_,rp5.opn,rp5.dis⟩
     obtain ⟨a,h1,h2,h3⟩:=rp5.ow i d hi e
     have na:a≠p:=fun z=>by subst z; exact nop io3' ⟨i,hi,h1⟩
     exact ⟨a,h1,h2,h3.grow (Same.refl _) fun o z=>by rw [qD na]; exact z⟩
    refine ⟨rp6,io3',?_,(gr4.trans c5.grow),qw,nF5,(is4.mono c5.grow).append (.cons mo5 .nil),by simp only [af,aq,bq]; have:=w.le; omega,er,?_⟩
    ·exact (chg4.trans' c5).trans cp fun b z=>.inr (by rw [z]; exact hp)
    ·rw [aI,<-w.all,hr]; rfl
   ·rw [if_neg aY]
    exact ⟨ds.length - (i+1),by omega,hp,rfl,hlt,F4,ρb,accD,xs,rest,rp4,io3',chg4,gr4,at4,nF4,is4,by have:=w.le; omega,er,w.all⟩
  ·have e:i=ds.length:=by omega
   subst e
   have run:=w.run
   rw [List.drop_length] at run
   unfold jS at run
   cases run
   have ha:=w.all
   rw [bf] at ha
   subst ha
   exact .inl ⟨itI.stop _ H1 (ao _) (w.gr.trans w.rep.sub),hp,σ1,F1,xs,w.rep,w.io,w.chg,w.at_,w.nF,w.is⟩
 ·rintro p L H' s' ⟨hp,σ1,F1,xs,r1,io1,c1,e1,n1,is1⟩ hns hfp hinv
  exact hRR p L s' F1 H' hp (Zv rp CO.nd r1 io1 c1) (c1.mono fun b z=>Zu io1 z) n1 ⟨xs,e1,is1⟩ hns hfp hinv
theorem Ws:∀ (ds:List D) (ρ:Sl) (c:Str) (o:Sl),jS g ft fe ds ρ≠.exc c o:=by
 intro ds
 induction ds with
 | nil=>intro ρ c o z; cases z
 | cons d ds ih=>
  intro ρ c o z
  unfold jS gh at z
  cases q1:g d ρ with
  | exc c=>rw [q1] at z; cases z
  | bad=>rw [q1] at z; cases z
  | ok ρ1=>
   rw [q1] at z
   simp only [Out.plain,Out.ok_bind] at z
   cases q2:ft ρ1 with
   | exc c=>rw [q2] at z; cases z
   | bad=>rw [q2] at z; cases z
   | ok p=>
    rw [q2] at z
    simp only [Out.plain,Out.ok_bind] at z
    by_cases hb:p.1=true
    ·rw [if_pos hb] at z
     cases q3:fe p.2 with
     | exc c=>rw [q3] at z; cases z
     | bad=>rw [q3] at z; cases z
     | ok r=>
      rw [q3] at z
      simp only [Out.plain,Out.ok_bind] at z
      cases q4:jS g ft fe ds r.2 with
      | exc c=>exact ih _ _ _ q4
      | bad=>rw [q4] at z; cases z
      | ok t=>rw [q4] at z; cases z
    ·rw [if_neg hb] at z
     simp only [Out.ok_bind] at z
     cases q4:jS g ft fe ds p.2 with
     | exc c=>exact ih _ _ _ q4
     | bad=>rw [q4] at z; cases z
     | ok t=>rw [q4] at z; cases z
theorem KQ {α:Type} {Z:Out (D×Sl)->Prop} (rp:Rep C.K own F H σ ρ) (hb:¬Z .bad) (hx:∀ c ρ',Z (.exc c ρ')->∀ F' H',Same F' H'->Xv C.K C.ox F' H' σ ρ'->Chg (OA own σ) F H F' H'->C.E (C.cv c) none H') (h:Z (jw own nt cap fi g ft fe ρ)) :
  tIt C own fi σ H fun J H1=>∃ ds ρ1 ys ρe F1,ds.length<=sizeLine/\jS g ft fe ds (kO nt cap ρ1)=.ok (ys,ρe)/\Rep C.K own F1 H1 σ ρ1/\Chg (OA own σ) F H F1 H1/\ItIs C.K F1 J ds/\Z (.ok (.lst ys,jR own ρe nt cap ρ1)):=by
 refine ⟨F,ρ,rp,?_⟩
 unfold jw at h
 cases q:fi ρ with
 | exc c=>rw [q] at h; exact hx c _ h
 | bad=>rw [q] at h; exact (hb h).elim
 | ok p=>
  obtain ⟨ds,ρ1⟩:=p
  rw [q] at h
  have h:Z (if ds.length<=sizeLine then (jS g ft fe ds (kO nt cap ρ1)).bind fun q=>.ok (.lst q.1,jR own q.2 nt cap ρ1) else .bad):=h
  by_cases z:ds.length<=sizeLine
  ·rw [if_pos z] at h
   cases q2:jS g ft fe ds (kO nt cap ρ1) with
   | exc c=>exact absurd q2 (Ws _ _ _ _)
   | bad=>rw [q2] at h; exact (hb h).elim
   | ok p=>
    obtain ⟨ys,ρe⟩:=p
    rw [q2] at h
    exact fun J F1 H1 rp1 c1 it=>⟨ds,ρ1,ys,ρe,F1,z,q2,rp1,c1,it,h⟩
  ·rw [if_neg z] at h; exact (hb h).elim
theorem jz (hcalm:X.calm=true) (S:ScOk X scope) (CO:CapOk X scope N nt cap) (hi:PI X tg iter (tIt C own fi))
  (hg:∀ fp L s' H',PG (jV X scope N fp L s' H') tg (tGd (ctC C nt cap.length) (yn own nt cap) g)) (ht:∀ fp L s' H',PTs (jV X scope N fp L s' H') ifs (tT (ctC C nt cap.length) (yn own nt cap) ft))
  (he:∀ fp L s' H',PE (jV X scope N fp L s' H') elt (tE (ctC C nt cap.length) (yn own nt cap) me fe)) (hme:me≠.any:=by decide) (hs:∀ x,foldedSetIterable iter X.env x=pure x:=by intro _; rfl) :
  PE X (.ListComp elt [⟨tg,iter,ifs,0⟩] scope pos) (tE C own .fr (jw own nt cap fi g ft fe)):=by
 refine ⟨?_⟩
 intro pins s σ H Q I ⟨F,ρ,rp,h⟩
 rw [eval_ListComp]
 have main:=KQ (α:=Unit) (Z:=fun r=>Po C own .fr σ F H r Q) rp (fun z=>z) (fun c _ z=>z) h
 refine wpAny_comprehension_free (use:=none) rfl hs (QH (gf I S)) S.kind S.names (thn (hi pins s σ H _ I main) fun xv s1 h1=>thn h1 fun itv s2 h2=>?_)
 obtain ⟨it,fp,tn,J,H2,e,I2,T,st2,f2,ds,ρ1,ys,ρe,F1,hz,hrun,rp1,c1,itI,po⟩:=h2
 subst e
 refine KP (RR:=fun acc C'=>compPost (model X.prog X.w) X.A X.xe none (EP X pins σ Q) acc C') I2 hcalm S CO T st2 f2 rp1 itI hz hg ht he hme hrun fun p L s' F' H' hp rp' c' nF o hns hfp hinv=>?_
 obtain ⟨m,hn⟩:=hns
 refine ⟨m,hn,fun h' sb=>⟨.ref p,H',hinv h' sb,rfl,?_⟩⟩
 refine po (.ref p) F' H' rp' (c1.trans' c') ⟨p,rfl,?_,nF,o⟩
 cases q:H p with
 | none=>rfl
 | some u=>exact absurd hp (c1.stay p (by rw [q]; simp))
theorem zG {pos' spos:Pos} (hN:X.N.Nodup) (hix:X.N[i]?=some x) (hx:Loc X.env.scope x) (hcalm:X.calm=true) (S:ScOk X scope) (CO:CapOk X scope N nt cap) (hi:PI X tg iter (tIt C own fi))
  (hg:∀ fp L s' H',PG (jV X scope N fp L s' H') tg (tGd (ctC C nt cap.length) (yn own nt cap) g)) (ht:∀ fp L s' H',PTs (jV X scope N fp L s' H') ifs (tT (ctC C nt cap.length) (yn own nt cap) ft))
  (he:∀ fp L s' H',PE (jV X scope N fp L s' H') elt (tE (ctC C nt cap.length) (yn own nt cap) me fe)) (hme:me≠.any:=by decide) (hio:i∉C.io:=by exact Uv rfl)
  (hsw:swapsWith (.ListComp elt [⟨tg,iter,ifs,0⟩] scope pos) (some (.Name x pos')) spos.line X.env=pure true:=by rfl) (hs:∀ x,foldedSetIterable iter X.env x=pure x:=by intro _; rfl)
  (hfx:X.fn x=true\/X.env.scope.names.lookup x=some .local:=by first | exact .inl rfl | exact .inr rfl) :
  PS X (.Assign [.Name x pos'] (.ListComp elt [⟨tg,iter,ifs,0⟩] scope pos) spos) (tSt C own (i::wX own [i]) (ka i (jw own nt cap fi g ft fe))):=by
 refine ⟨?_⟩
 intro pins s σ H D I ⟨F,ρ,rp,h⟩
 rw [exec_Assign_Name_used _ _ _ _ hsw]
 refine wpAny_bind (wpAny_standAt (wpAny_bind ?_))
 show wpAny _ X.A (do let _ <-comprehension (.ListComp elt [⟨tg,iter,ifs,0⟩] scope pos) scope X.env _ (newList []) false (eval iter X.env) (some (assign (.Name x pos') X.env))) _ _ s
 have main:=KQ (α:=Unit) (Z:=fun r=>PoS C own (i::wX own [i]) σ F H (r.bind fun p=>if i < p.2.length then .ok (.nx,p.2.set i (some p.1)) else .bad) D) rp (fun z=>z) (fun c _ z=>z) h
 refine wpAny_bind (wpAny_mono (wpAny_comprehension_free (use:=some (assign (.Name x pos') X.env)) (Q:=fun _ s'=>SP X pins D .next s') rfl hs (QH (gf I S)) S.kind S.names (thn (hi pins s σ H _ I main) fun xv s1 h1=>thn h1 fun itv s2 h2=>?_)) (fun _ s' hq=>wpAny_pure (wpAny_pure hq)) fun _ _ e=>e)
 obtain ⟨it,fp,tn,J,H2,e,I2,T,st2,f2,ds,ρ1,ys,ρe,F1,hz,hrun,rp1,c1,itI,po⟩:=h2
 subst e
 refine KP (RR:=fun acc C'=>compPost (model X.prog X.w) X.A X.xe (some (assign (.Name x pos') X.env)) (fun _ s'=>SP X pins D .next s') acc C') I2 hcalm S CO T st2 f2 rp1 itI hz hg ht he hme hrun fun p L s' F' H' hp rp' c' nF o hns hfp hinv=>?_
 obtain ⟨m,hn⟩:=hns
 have I3:Inv X pins σ H' s':=by simpa using hinv s'.heap (.refl ..)
 have hH:H p=none:=by
  cases q:H p with
  | none=>rfl
  | some u=>exact absurd hp (c1.stay p (by rw [q]; simp))
 show wpAny _ X.A (assign (.Name x pos') X.env (.ref p)) _ _ s'
 refine wpAny_assign_Name (Ku I3 hN hix hx (v:=.ref p) rfl (fun s4 I4 ⟨a,sba,ha⟩=>?_) hfx)
 obtain ⟨f0,f1,f2',f3,f4,f5⟩:=hfp
 have nL:L≠a:=by
  rcases ha with z | z
  ·rw [z]; exact f1
  ·exact fun q=>f4 x a z q.symm
 refine ⟨m,hn.sameBut sba nL,fun h' sb=>?_⟩
 have I5:Inv X pins (σ.set i (some (.ref p))) H' { s4 with heap:=h' }:=by
  have:=I4.turned (h':=h') (t':=s4.toks) (it:=L) (fun b o hb e=>(sb.2 b hb).trans e) f0 f1 f3 f4 f5
  exact this
 refine ⟨_,H',I5,?_⟩
 have po:PoS C own (i::wX own [i]) σ F H (if i < (jR own ρe nt cap ρ1).length then .ok (.nx,(jR own ρe nt cap ρ1).set i (some (.lst ys))) else .bad) D:=po
 by_cases z:i < (jR own ρe nt cap ρ1).length
 ·rw [if_pos z] at po
  refine po _ F' H' ⟨rp'.putO z nF (fun y=>(rp.OA_there y).1 hH) o,c1.trans' c',fun b y=>?_,fun j hj=>aj fun y=>hio (by rw [y]; exact hj)⟩
  obtain ⟨j,hj,e⟩:=y
  by_cases qj:j=i
  ·subst qj
   rw [aC (by rw [rp'.len]; exact z)] at e
   cases e
   exact .inr hH
  ·have hj':=(jh j).mp ((ac.mp hj).resolve_left qj)
   rw [aj (aX qj)] at e
   exact .inl ⟨j,hj'.1,e⟩
 ·rw [if_neg z] at po; exact po.elim
end
def Fly (h:Heap) (ex T:Addr) (cls:Value):Prop:=∃ oe vs oT ts,h.get? ex=some oe/\oe.cls=cls/\oe.data=.fields vs/\vs[1]?=some (.ref T)/\T≠ex/\h.get? T=some oT/\oT.data=.fields ts/\ts[3]?=some .none
def CXk (P:Program) (w:World):CXT:=fun outer H s E e s'=>∃ ex T C H',e=.ref ex/\s'.os=s.os/\AllBare s'.gens/\Un (frs outer) [] H H' s.heap s'.heap/\HOk P w H' s'.heap/\Fly s'.heap ex T (.ref C)/\H' ex=none/\H' T=none/\s.heap.get? ex=none/\s.heap.get? T=none/\E (.ref C) none H'
def InB (X:Cx) (H:Hp) (s:Shared) (ex:Addr) (cls:Value):Prop:=H ex=none/\X.s₀.heap.get? ex=none /\
 ((∃ oe vs,s.heap.get? ex=some oe/\oe.cls=cls/\oe.data=.fields vs/\vs[1]?=some .none)\/∃ T,Fly s.heap ex T cls/\H T=none/\X.s₀.heap.get? T=none)
variable {ex:Addr} {T0:Option Addr} {h2:Heap}
section
variable {cls:Value}
theorem InB.dat (h:InB X H s ex cls):∃ oe vs,s.heap.get? ex=some oe/\oe.cls=cls/\oe.data=.fields vs:=by
 rcases h.2.2 with ⟨oe,vs,a,b,c,_⟩ | ⟨T,⟨oe,vs,oT,ts,a,b,c,_⟩,_⟩
 ·exact ⟨oe,vs,a,b,c⟩
 ·exact ⟨oe,vs,a,b,c⟩
noncomputable def yH (ex:Addr) (T:Option Addr) (X:Cx):List Addr:=ex::(T.toList++frs X.stack)
theorem yI (I:Inv X pins σ H s) (hb:b∈frs X.stack):∃ o,s.heap.get? b=some o/\∀ vs,o.data≠.fields vs:=(I.stack.mem hb).2
theorem KR (hs:X.stack=X.env::X.outer):∀ env∈X.stack,∀ b,env.frame=some b->b∈frs X.stack:=fun env he b hb=>dU.mpr ⟨env,he,hb⟩
structure Gone (X:Cx) (H:Hp) (s:Shared) (ex:Addr) (cls:Value) (h2:Heap):Prop where
 keep:∀ b o,s.heap.get? b=some o->H b≠none\/(X.s₀.heap.get? b≠none/\b∉frs X.stack)->h2.get? b=some o
 slot:∀ b o,s.heap.get? b=some o->b∈frs X.stack->∃ sl,h2.get? b=some { o with slots:=sl }
 ok:HOk X.prog X.w H h2
 un:Un (frs X.stack) [] H H s.heap h2\/True
theorem Zw {h2:Heap} (I:Inv X pins σ H s) (hex:H ex=none) (hT:∀ T,T0=some T->H T=none) (n1:X.s₀.heap.get? ex=none) (n2:∀ T,T0=some T->X.s₀.heap.get? T=none)
  (st:(aV s.heap (yH ex T0 X)).StaysIn h2) (sl:∀ b o,s.heap.get? b=some o->(∀ vs,o.data≠.fields vs)->∃ sl,h2.get? b=some { o with slots:=sl }):Gone X H s ex cls h2:=by
 have keep:∀ b o,s.heap.get? b=some o->b≠ex->(∀ T,T0=some T->b≠T)->b∉frs X.stack->h2.get? b=some o:=fun b o e h1 h2 h3=>st b o (cK _ e fun hm=>by
  rcases ac.mp hm with q | hm
  ·exact h1 q
  ·rcases ai.mp hm with q | q
   ·exact h2 b (Option.mem_toList.mp q) rfl
   ·exact h3 q)
 have k1:∀ b o,s.heap.get? b=some o->H b≠none->h2.get? b=some o:=fun b o e hn=>keep b o e (fun q=>hn (by rw [q]; exact hex)) (fun T hT' q=>hn (by rw [q]; exact hT T hT')) fun q=>hn (I.stkFree b q)
 refine ⟨fun b o e hb=>?_,fun b o e hb=>?_,fun b u e=>?_,.inr trivial⟩
 ·rcases hb with hb | ⟨hb,hf⟩
  ·exact k1 b o e hb
  ·exact keep b o e (fun q=>hb (by rw [q]; exact n1)) (fun T hT' q=>hb (by rw [q]; exact n2 T hT')) hf
 ·obtain ⟨o',e',nf⟩:=yI I hb
  rw [e] at e'; cases e'
  exact sl b o e nf
 ·refine (I.hok b u e).stay (fun c v hc q=>k1 c v q ?_) (fun _ q=>q) fun _ _ q=>q
  rcases hc with z | z
  ·rw [z,e]; simp
  ·rw [z]; simp
theorem KS (I:Inv X pins σ H s) (hT:∀ T,T0=some T->H T=none) (n2:∀ T,T0=some T->X.s₀.heap.get? T=none) (g:Gone X H s ex cls h2) (hex0:X.ex=[])
  (tr:h2.Traced (aV s.heap (yH ex T0 X)) ex cls):∃ T,Fly h2 ex T cls/\H T=none/\X.s₀.heap.get? T=none:=by
 obtain ⟨oe,vs,T,oT,ts,a1,a2,a3,a4,a5,a6,a7,a8,a9⟩:=tr
 have noS:∀ o,s.heap.get? T=some o->(∃ q,T0=some q/\T=q):=fun o e=>by
  have hm:T∈yH ex T0 X:=by
   refine bv fun hn=>?_
   rw [cK _ e hn] at a5
   cases a5
  rcases ac.mp hm with q | hm
  ·exact absurd q a6
  ·rcases ai.mp hm with q | q
   ·exact ⟨T,Option.mem_toList.mp q,rfl⟩
   ·obtain ⟨o',e',nf⟩:=yI I q
    obtain ⟨sl,e2⟩:=g.slot T o' e' q
    rw [a7] at e2
    cases e2
    exact absurd a8 (nf ts)
 refine ⟨T,⟨oe,vs,oT,ts,a1,a2,a3,a4,a6,a7,a8,a9⟩,?_,?_⟩
 ·cases q:H T with
  | none=>rfl
  | some u=>
   have hlt:=I.hok.lt q
   obtain ⟨o,e⟩:∃ o,s.heap.get? T=some o:=by
    have:=(I.hok T u q)
    have st:=this.stay (H':=H) (h':=s.heap) (fun b v _ z=>z) (fun _ z=>z) fun _ _ z=>z
    cases z:s.heap.get? T with
    | some o=>exact ⟨o,rfl⟩
    | none=>
     exfalso
     cases u with
     | lst xs=>obtain ⟨_,_,_,_,e⟩:=st; rw [z] at e; cases e
     | tup xs=>obtain ⟨_,_,_,_,e,_⟩:=st; rw [z] at e; cases e
     | dK kvs=>obtain ⟨_,_,_,_,o,_,_,e,_⟩:=st; rw [z] at e; cases e
     | dT kvs=>obtain ⟨_,_,_,_,o,_,_,e,_⟩:=st; rw [z] at e; cases e
     | set S n=>obtain ⟨o,_,_,_,e,_⟩:=st; rw [z] at e; cases e
     | ins C dx fs=>obtain ⟨_,_,_,e,_⟩:=st; rw [z] at e; cases e
     | own y=>obtain ⟨_,e⟩:=st; rw [z] at e; cases e
     | xd fs=>obtain ⟨_,⟨_,_,_,e,_⟩,_⟩:=st; rw [z] at e; cases e
     | rng lo hi=>obtain ⟨_,_,_,e⟩:=st; rw [z] at e; cases e
     | frz ob u=>obtain ⟨e,_⟩:=st; rw [z] at e; cases e
     | tbl ps=>have e:s.heap.get? T=some _:=st; rw [z] at e; cases e
     | met f y=>have e:s.heap.get? T=some _:=st; rw [z] at e; cases e
     | ext φ=>obtain ⟨_,⟨_,e⟩,_⟩:=st; rw [z] at e; cases e
   obtain ⟨q',hq',rfl⟩:=noS o e
   rw [hT _ hq'] at q; cases q
 ·cases q:X.s₀.heap.get? T with
  | none=>rfl
  | some o=>
   obtain ⟨o',e'⟩:=I.base.there T o q (by rw [hex0]; simp)
   obtain ⟨q',hq',rfl⟩:=noS o' e'
   rw [n2 _ hq'] at q; cases q
theorem YO {E:Value->Shared->Prop} {Q:Unit->Shared->Prop} (I:Inv X pins σ H s) (hstk:X.stack=X.env::X.outer) (hfr:X.env.frame=some X.env.locals) (hex0:X.ex=[]) (x:InB X H s ex cls)
  (k:∀ h2 T,Gone X H s ex cls h2->Fly h2 ex T cls->H T=none->X.s₀.heap.get? T=none->Q () { s with heap:=h2 }):wpAny (model X.prog X.w) X.A (leaving X.env (.ref ex)) Q E s:=by
 obtain ⟨hex,n1,hx⟩:=x
 have hF:X.A.frames=some (X.env::X.outer):=by rw [I.ok.frames,hstk]
 have hB:∀ as,(aV s.heap as).StaysIn s.heap:=fun as b o e=>dn as e
 have hl:∀ T0,s.heap.FunFrames (aV s.heap (yH ex T0 X)) (X.env::X.outer):=fun T0=>by
  rw [<-hstk]
  exact PySem.W.funFrames_hide I.stack fun env he b hb=>ae _ (aM _ (KR hstk env he b hb))
 have hn:∀ T0,(aV s.heap (yH ex T0 X)).get? ex=none:=fun T0=>cy _ (ac.mpr (.inl rfl))
 rcases hx with ⟨oe,vs,a1,a2,a3,a4⟩ | ⟨T,⟨oe,vs,oT,ts,a1,a2,a3,a4,a5,a6,a7,a8⟩,hT,n2⟩
 ·refine wpAny_leaving_first (base:=aV s.heap (yH ex none X)) hF (hl none) hfr a1 (hB _) (hn none) a3 a4 fun h2 ⟨st,_,tr,sl⟩=>?_
  have g:Gone X H s ex cls h2:=Zw I hex (T0:=none) (fun _ z=>nomatch z) n1 (fun _ z=>nomatch z) st sl
  rw [a2] at tr
  obtain ⟨T',f1,f2,f3⟩:=KS I (T0:=none) (fun _ z=>nomatch z) (fun _ z=>nomatch z) g hex0 tr
  exact k h2 T' g f1 f2 f3
 ·have hT':∀ T1,some T=some T1->H T1=none:=fun T1 z=>by cases z; exact hT
  have n2':∀ T1,some T=some T1->X.s₀.heap.get? T1=none:=fun T1 z=>by cases z; exact n2
  have tr0:s.heap.Traced (aV s.heap (yH ex (some T) X)) ex cls:=⟨oe,vs,T,oT,ts,a1,a2,a3,a4,cy _ (ae _ (bV _ (by simp))),a5,a6,a7,a8⟩
  refine wpAny_leaving_next (base:=aV s.heap (yH ex (some T) X)) hF (hl (some T)) hfr tr0 (hB _) (hn _) fun h2 ⟨st,_,tr,sl⟩=>?_
  have g:Gone X H s ex cls h2:=Zw I hex hT' n1 n2' st sl
  obtain ⟨T',f1,f2,f3⟩:=KS I hT' n2' g hex0 tr
  exact k h2 T' g f1 f2 f3
end
variable {A:Around} {P:Program} {w:World} {mg:Str->Option Value} {base h:Heap} {qual:Str} {outer:List Env} {s0:Shared}
section
variable {f:Addr} {cd:Value} {E:XK}
abbrev cxk (P:Program) (w:World) (K:Frag) (mg:Str->Option Value) (base:Heap) (N:List Str) (qual:Str) (scope:Scope) (f:Addr) (cd:Value) (A:Around) (outer:List Env) (s0:Shared) (H0:Hp) (E:XK):Cx:=qcE (CXk P w) P w K mg base N qual scope f cd A outer s0 H0 E
theorem qeL {C:Addr} (I:Inv (cxk P w K mg base N qual scope f cd A outer s0 H0 E) pins σ H s) (x:InB (cxk P w K mg base N qual scope f cd A outer s0 H0 E) H s ex (.ref C)) (hE:E (.ref C) none H) :
  (cxk P w K mg base N qual scope f cd A outer s0 H0 E).xe (.ref ex) s:=by
 refine YO I rfl rfl rfl x fun h2 T g fl hT nT=>?_
 have bs0:=I.base
 have neL:∀ b o,s0.heap.get? b=some o->b≠(cxk P w K mg base N qual scope f cd A outer s0 H0 E).env.locals:=fun b o e=>aA (aD (am e) I.ok.above)
 have nst:∀ b o,s0.heap.get? b=some o->b∉frs outer->b∉frs (cxk P w K mg base N qual scope f cd A outer s0 H0 E).stack:=fun b o e hb z=>by
  rcases ac.mp (I.stkSub b z) with q | q
  ·exact neL b o e q
  ·exact hb q
 have ist:∀ b,b∈frs outer->b∈frs (cxk P w K mg base N qual scope f cd A outer s0 H0 E).stack:=fun b hb=>by
  show b∈frs (_::outer)
  unfold frs
  rw [bc]
  exact ae _ hb
 refine ⟨ex,T,C,H,rfl,I.os,I.bare,⟨fun b o e n hb hx=>?_,fun b o e n hb hx=>?_,bs0.free,fun b o e hx=>?_,bs0.tups,bs0.frzs,bs0.tbls⟩,g.ok,fl,x.1,hT,x.2.1,nT,hE⟩
 ·exact g.keep b o (bs0.keep b o e n hb hx) (.inr ⟨by show s0.heap.get? b≠none; rw [e]; simp,nst b o e hb⟩)
 ·obtain ⟨sl,q⟩:=bs0.slot b o e n hb hx
  obtain ⟨sl2,q2⟩:=g.slot b _ q (ist b hb)
  exact ⟨sl2,q2⟩
 ·obtain ⟨o',q⟩:=bs0.there b o e hx
  by_cases hb:b∈frs (cxk P w K mg base N qual scope f cd A outer s0 H0 E).stack
  ·obtain ⟨sl,q2⟩:=g.slot b o' q hb
   exact ⟨_,q2⟩
  ·exact ⟨o',g.keep b o' q (.inr ⟨by show s0.heap.get? b≠none; rw [e]; simp,hb⟩)⟩
theorem qc1 {e:Value} (hex0:X.ex=[]) (I:Inv X pins σ H s) (h:CXk X.prog X.w X.stack H s E e s'):∃ ex C H',e=.ref ex/\Inv X pins σ H' s'/\InB X H' s' ex (.ref C)/\E (.ref C) none H':=by
 obtain ⟨ex,T,C,H',rfl,os,bare,un,hok,fl,e1,e2,n1,n2,hE⟩:=h
 have old:∀ b,s.heap.get? b=none->X.s₀.heap.get? b=none:=fun b hb=>by
  cases q:X.s₀.heap.get? b with
  | none=>rfl
  | some o=>
   obtain ⟨o',e'⟩:=I.base.there b o q (by rw [hex0]; simp)
   rw [hb] at e'; cases e'
 exact ⟨ex,C,H',rfl,I.call' (ch:=[]) os un hok bare (fun b z=>absurd z (by simp)),⟨e1,old ex n1,.inr ⟨T,fl,e2,old T n2⟩⟩,hE⟩
theorem qL:vY (CXk P w) (cxk P w K mg base N qual scope f cd A outer s0 H0 E) E:=fun pins σ H s e s' I h=>by
 obtain ⟨ex,C,H',rfl,I',x,hE⟩:=qc1 rfl I h
 exact qeL I' x hE
theorem qc2 {C:Addr} {bmB:List Value} {newId:String} (kin:K.In h) (hm:mg x=some (.ref C)) (q:dg K C bmB newId=true):OwnCls x C bmB newId mg h:=by
 refine ⟨hm,?_⟩
 unfold dg at q
 split at q
 case h_2=>cases q
 case h_1 dd cd sl lk=>
  split at q
  case h_2=>cases q
  case h_1 C' bm a0 a1 a2 a3 n a5 em es=>
   have q':=q
   simp only [aN,beq_iff_eq,Bool.not_eq_true'] at q'
   obtain ⟨⟨⟨⟨⟨e1,e2⟩,nodel⟩,tl⟩,nsok⟩,noinit⟩:=q'
   obtain ⟨nm,bs,mro,ns,qn,hd,sn,sub,ab,col,del⟩:=cd
   dsimp only at em nodel nsok noinit
   obtain ⟨sll⟩:=sl
   dsimp only at es
   subst em nodel es e1 e2
   exact ⟨bm,ns,nm,qn,bs,hd,sn,sub,ab,col,dd,a0,a1,a2,a3,a5,_,kin _ _ lk,.of_isNs (PySem.W.isNs_of_in kin nsok),PySem.W.nsMap_none_of_in kin nsok noinit,PySem.W.tail_of_in kin tl⟩
end
theorem qb6 {T:Addr} (hok:HOk P w H h) (q:H T=some u):∃ o,h.get? T=some o:=by
 have st:=hok T u q
 cases z:h.get? T with
 | some o=>exact ⟨o,rfl⟩
 | none=>
  exfalso
  cases u with
  | lst xs=>obtain ⟨_,_,_,_,e⟩:=st; rw [z] at e; cases e
  | tup xs=>obtain ⟨_,_,_,_,e,_⟩:=st; rw [z] at e; cases e
  | dK kvs=>obtain ⟨_,_,_,_,o,_,_,e,_⟩:=st; rw [z] at e; cases e
  | dT kvs=>obtain ⟨_,_,_,_,o,_,_,e,_⟩:=st; rw [z] at e; cases e
  | set S n=>obtain ⟨o,_,_,_,e,_⟩:=st; rw [z] at e; cases e
  | ins C dx fs=>obtain ⟨_,_,_,e,_⟩:=st; rw [z] at e; cases e
  | own y=>obtain ⟨_,e⟩:=st; rw [z] at e; cases e
  | xd fs=>obtain ⟨_,⟨_,_,_,e,_⟩,_⟩:=st; rw [z] at e; cases e
  | rng lo hi=>obtain ⟨_,_,_,e⟩:=st; rw [z] at e; cases e
  | frz ob u=>obtain ⟨e,_⟩:=st; rw [z] at e; cases e
  | tbl ps=>have e:h.get? T=some _:=st; rw [z] at e; cases e
  | met f y=>have e:h.get? T=some _:=st; rw [z] at e; cases e
  | ext φ=>obtain ⟨_,⟨_,e⟩,_⟩:=st; rw [z] at e; cases e
abbrev bmV:List Value:=[.type "ValueError",.type "Exception",.type "BaseException",.type "object"]
noncomputable def ku (x:Str) (fr:Sl->Out (List D×Sl)):Sl->Out (Fl×Sl):=fun ρ=>(fr ρ).bind fun p=>.exc x p.2
theorem PoS.bindA {as:List AK} {o:Out (List D×Sl)} {k:List D×Sl->Out (Fl×Sl)} {D:Ends} {R:List V->Hp->Prop} (hp:PoS C own own' σ F H (o.bind k) D)
  (h:∀ vs F1 H1 ds ρ1,Rep C.K own F1 H1 σ ρ1->Chg (OA own σ) F H F1 H1->ArgV C.K H F1 H1 σ as vs ds->PoS C own own' σ F1 H1 (k (ds,ρ1)) D->R vs H1):PoA C own as σ F H o R:=by
 cases o with
 | ok p=>
  obtain ⟨ds,ρ1⟩:=p
  exact fun vs F1 H1 rp c av=>h vs F1 H1 ds ρ1 rp c av (PoS.shift (show PoS C own own' σ F H (k (ds,ρ1)) D from hp) (.ofE rp c))
 | exc x=>exact hp
 | bad=>exact hp.elim
def Zx (X:Cx) (C:Ct):Prop:=∀ (pins:List (Addr×Obj)) (σ:St) (H:Hp) (s:Shared) (ex A:Addr),Inv X pins σ H s->InB X H s ex (.ref A)->C.E (.ref A) none H->X.xe (.ref ex) s
theorem qeM {f:Addr} {cd:Value}:Zx (cxk P w K mg base N qual scope f cd A outer s0 H0 C.E) C:=fun pins σ H s ex A I x hE=>qeL I x hE
variable {Cc:Addr} {cpos:Pos}
section
variable {fr:Sl->Out (List D×Sl)} {np:Pos}
theorem ArgV.len:∀ {as:List AK} {vs:List V} {ds:List D},ArgV K H0 F H σ as vs ds->vs.length=as.length
 | [],[],[],_=>rfl
 | .vl::as,v::vs,d::ds,h=>congrArg (·+1) (ArgV.len h.2)
 | .sl i::as,v::vs,d::ds,h=>congrArg (·+1) (ArgV.len h.2.2)
 | .fr::as,v::vs,d::ds,h=>congrArg (·+1) (ArgV.len h.2)
 | [],_::_,_,h=>h.elim
 | [],[],_::_,h=>h.elim
 | .vl::_,[],_,h=>h.elim
 | .vl::_,_::_,[],h=>h.elim
 | .sl _::_,[],_,h=>h.elim
 | .sl _::_,_::_,[],h=>h.elim
 | .fr::_,[],_,h=>h.elim
 | .fr::_,_::_,[],h=>h.elim
theorem vh (hx0:X.ex=[]) (ht:Zx X C) (hcalm:X.calm=true) (hg:Gl X x) (hm:X.mg x=some (.ref Cc)) (hcv:C.cv x=.ref Cc) (q:dg X.K Cc bmV "ValueError.__new__"=true) (ha:PA X (e::es) (tAr C own as fr)) (hsz:as.length<=1000:=by decide) (hio:∀ i∈C.ox,i∈own:=by exact vZ rfl) (hd:(x == ("__debug__":Str))=false:=by decide)
  (he:starEach (e::es) X.env=(false,eval e X.env)::starEach es X.env:=by exact jP rfl) (hpl:(backTo cpos (starEach es X.env)).any (·.1)=false:=by rfl) :
  PS X (.Raise (some (.Call (.Name x np) (e::es) [] cpos)) none pos) (tSt C own own' (ku x fr)):=by
 refine ⟨?_⟩
 intro pins s σ H D I ⟨F,ρ,rp,h⟩
 obtain ⟨tl,N,nm,qn,bs,hdct,sn,sub,ab,col,dd,k0,k1,k2,k3,k5,mN,hC,hN,hni,T⟩:=(qc2 I.ok.mod.kin hm q).obj
 refine wpAny_Raise_call_subT (C:=Cc) (nm:=nm) (q:=qn) (N:=N) (bs:=bs) (bm:=tl) (hdct:=hdct) (sn:=sn) (sub:=sub) (ab:=ab) (col:=col) (dd:=dd) (k0:=k0) (k1:=k1) (k2:=k2) (k3:=k3) (k5:=k5)
  PySem.F.excBase_ValueError (mN:=mN) (T.hasType PySem.F.excBase_ValueError.hasBase) (I.ok.hd hcalm) (by rw [he]; show (false||(backTo cpos (starEach es X.env)).any (·.1))=false; rw [hpl]; rfl) hni (xp I hg hm ⟨rfl,?_⟩ hd)
 have main:tAr C own as fr σ H fun vs H1=>vs.length<=sizeLine/\C.E (.ref Cc) none H1:=by
  refine ⟨F,ρ,rp,PoS.bindA h fun vs F1 H1 ds ρ1 rp1 c1 av h1=>⟨?_,?_⟩⟩
  ·rw [av.len]; exact bU hsz (by rw [sizeLine_eq]; decide)
  ·rw [<-hcv]; exact h1 F1 H1 rp1.sub (rp1.ioIs hio) .refl
 have run:=ha cpos pins s σ H _ I main
 rw [he] at run ⊢
 refine dL (wpAny_mono run (fun us s2 ⟨vs,H2,I2,r2,z2,hE⟩=>?_) fun _ _ y=>y)
 refine ⟨rfl,by rw [<-r2.length]; exact z2,I2.bk _ _ hC,hN.keeps I2.bk,T.keeps I2.bk,fun h' ex mk=>?_⟩
 have I3:Inv X pins σ H2 { s2 with heap:=h' }:=I2.kept (t':=s2.toks) mk.keeps
 obtain ⟨t,h1,h2,h3⟩:=mk.there
 refine ht pins σ H2 _ ex Cc I3 ⟨?_,?_,.inl ⟨_,_,h1,rfl,rfl,rfl⟩⟩ hE
 ·cases q2:H2 ex with
  | none=>rfl
  | some u=>
   have hlt:=I2.hok.lt q2
   refine absurd mk.new ?_
   obtain ⟨o,e⟩:=qb6 I2.hok q2
   rw [e]; simp
 ·cases q2:X.s₀.heap.get? ex with
  | none=>rfl
  | some o=>
   obtain ⟨o',e'⟩:=I2.base.there ex o q2 (by rw [hx0]; simp)
   rw [mk.new] at e'; cases e'
end
structure Caught (X:Cx) (pins:List (Addr×Obj)) (H:Hp) (s:Shared) (ex T Cc:Addr):Prop where
 fly:Fly s.heap ex T (.ref Cc)
 hex:H ex=none
 hT:H T=none
 n1:X.s₀.heap.get? ex=none
 n2:X.s₀.heap.get? T=none
 pp:∀ p∈X.pn++pins,p.1≠ex/\p.1≠T
variable {xe:Value->Shared->Prop}
section
variable {T:Addr}
theorem Caught.dex (c:Caught X pins H s ex T Cc):∃ oe vs,s.heap.get? ex=some oe/\oe.data=.fields vs:=let ⟨oe,vs,oT,ts,a1,a2,a3,_⟩:=c.fly; ⟨oe,vs,a1,a3⟩
theorem Caught.dT (c:Caught X pins H s ex T Cc):∃ oe vs,s.heap.get? T=some oe/\oe.data=.fields vs:=let ⟨oe,vs,oT,ts,a1,a2,a3,a4,a5,a6,a7,_⟩:=c.fly; ⟨oT,ts,a6,a7⟩
theorem UI {h2:Heap} (I:Inv X pins σ H s) (hstk:X.stack=X.env::X.outer) (hfr:X.env.frame=some X.env.locals) (hx0:X.ex=[]) (c:Caught X pins H s ex T Cc)
  (keep:∀ b o,s.heap.get? b=some o->b≠ex->b≠T->b∉frs X.stack->h2.get? b=some o)
  (slot:∀ b o,s.heap.get? b=some o->b∈frs X.stack->∃ sl,h2.get? b=some { o with slots:=sl }):Inv X pins σ H { s with heap:=h2 }:=by
 obtain ⟨oe,ve,he,de⟩:=c.dex
 obtain ⟨oT,vT,hT,dT⟩:=c.dT
 have nf:∀ b o,s.heap.get? b=some o->(∀ vs,o.data≠.fields vs)->b≠ex/\b≠T:=fun b o e n=>by
  constructor
  ·rintro rfl; rw [he] at e; cases e; exact n _ de
  ·rintro rfl; rw [hT] at e; cases e; exact n _ dT
 have Lm:X.env.locals∈frs X.stack:=by
  rw [hstk]; unfold frs; rw [bc,hfr]; exact aw
 have neL:∀ b o,X.s₀.heap.get? b=some o->b≠X.env.locals:=fun b o e=>aA (aD (am e) I.ok.above)
 have nst:∀ b o,X.s₀.heap.get? b=some o->b∉X.fs->b∉frs X.stack:=fun b o e hb z=>by
  rcases ac.mp (I.stkSub b z) with q | q
  ·exact neL b o e q
  ·exact hb q
 have ist:∀ b,b∈X.fs->b∈frs X.stack:=fun b hb=>by
  rw [hstk]; unfold frs; rw [bc,hfr]; exact ae _ hb
 have ne0:∀ b o,X.s₀.heap.get? b=some o->b≠ex/\b≠T:=fun b o e=>⟨(by rintro rfl; rw [c.n1] at e; cases e),(by rintro rfl; rw [c.n2] at e; cases e)⟩
 have kc:∀ {a:Addr} {v:Option Value},s.heap.IsCell a v->h2.IsCell a v:=fun {a v} ⟨oc,e1,e2⟩=>by
  have q:=nf a oc e1 fun vs z=>by rw [e2] at z; cases z
  by_cases hb:a∈frs X.stack
  ·obtain ⟨sl,z⟩:=slot a oc e1 hb
   exact ⟨_,z,e2⟩
  ·exact ⟨oc,keep a oc e1 q.1 q.2 hb,e2⟩
 refine ⟨I.ok,I.os,I.bare,⟨fun b o e n hb hx=>?_,fun b o e n hb hx=>?_,I.base.free,fun b o e hx=>?_,I.base.tups,I.base.frzs,I.base.tbls⟩,?_,fun x a e=>?_,I.free,I.freeC,fun p hp=>?_,fun b u e=>?_,I.len⟩
 ·exact keep b o (I.base.keep b o e n hb hx) (ne0 b o e).1 (ne0 b o e).2 (nst b o e hb)
 ·obtain ⟨sl,q⟩:=I.base.slot b o e n hb hx
  obtain ⟨sl2,q2⟩:=slot b _ q (ist b hb)
  exact ⟨sl2,q2⟩
 ·obtain ⟨o',q⟩:=I.base.there b o e hx
  by_cases hb:b∈frs X.stack
  ·obtain ⟨sl,z⟩:=slot b o' q hb
   exact ⟨_,z⟩
  ·exact ⟨o',keep b o' q (ne0 b o e).1 (ne0 b o e).2 hb⟩
 ·obtain ⟨m,⟨o,es,ep,ho,r⟩,hl⟩:=I.loc
  obtain ⟨sl,hL⟩:=slot _ o ho Lm
  refine ⟨m,⟨_,es,ep,hL,r⟩,fun i x v e1 e2 e3=>?_⟩
  obtain ⟨u,rv,lk⟩:=hl i x v e1 e2 e3
  refine ⟨u,rv,?_⟩
  rcases lk with z | ⟨k,a,e,z⟩
  ·exact .inl z
  ·exact .inr ⟨k,a,e,kc z⟩
 ·obtain ⟨v,z⟩:=I.cell x a e
  exact ⟨v,kc z⟩
 ·obtain ⟨a1,a2,a3,a4,a5⟩:=I.pin p hp
  refine ⟨keep p.1 p.2 a1 (c.pp p hp).1 (c.pp p hp).2 fun z=>?_,a2,a3,a4,a5⟩
  rcases ac.mp (I.stkSub p.1 z) with q | q
  ·exact a3 q
  ·exact a4 q
 ·refine (I.hok b u e).stay (fun d v hc q=>?_) (fun _ q=>q) fun _ _ q=>q
  have hd:H d≠none:=by
   rcases hc with z | z
   ·rw [z,e]; simp
   ·rw [z]; simp
  exact keep d v q (fun z=>hd (by rw [z]; exact c.hex)) (fun z=>hd (by rw [z]; exact c.hT)) fun z=>hd (I.stkFree d z)
theorem QI {a0:Value} (I:Inv X pins σ H s) (hx0:X.ex=[]) (c:Caught X pins H s ex T Cc) (slot:∀ b o,s.heap.get? b=some o->b∈frs X.stack->∃ sl,h2.get? b=some { o with slots:=sl })
  (tr:h2.TracedW (aV s.heap (yH ex (some T) X)) ex (.ref Cc) a0):∃ T',Caught X pins H { s with heap:=h2 } ex T' Cc:=by
 obtain ⟨oe,vs,T',oT,ts,b1,⟨b2,_⟩,b3,b4,b5,b6,b7,b8,b9⟩:=tr
 have noS:∀ o,s.heap.get? T'=some o->T'=T:=fun o e=>by
  have hm:T'∈yH ex (some T) X:=by
   refine bv fun hn=>?_
   rw [cK _ e hn] at b5
   cases b5
  rcases ac.mp hm with q | hm
  ·exact absurd q b6
  ·rcases ai.mp hm with q | q
   ·simpa using q
   ·obtain ⟨o',e',nf⟩:=yI I q
    obtain ⟨sl,e2⟩:=slot T' o' e' q
    rw [b7] at e2
    cases e2
    exact absurd b8 (nf ts)
 refine ⟨T',⟨oe,vs,oT,ts,b1,b2,b3,b4,b6,b7,b8,b9⟩,c.hex,?_,c.n1,?_,fun p hp=>⟨(c.pp p hp).1,?_⟩⟩
 ·cases q:H T' with
  | none=>rfl
  | some u=>
   obtain ⟨o,e⟩:=qb6 I.hok q
   rw [noS o e,c.hT] at q; cases q
 ·cases q:X.s₀.heap.get? T' with
  | none=>rfl
  | some o=>
   obtain ⟨o',e'⟩:=I.base.there T' o q (by rw [hx0]; simp)
   rw [noS o' e',c.n2] at q; cases q
 ·rintro rfl
  exact (c.pp p hp).2 (noS _ (I.pin p hp).1)
theorem QJ (st:(aV s.heap (yH ex (some T) X)).StaysIn h2):∀ b o,s.heap.get? b=some o->b≠ex->b≠T->b∉frs X.stack->h2.get? b=some o:=fun b o e h1 h2 h3=>st b o (cK _ e fun hm=>by
  rcases ac.mp hm with q | hm
  ·exact h1 q
  ·rcases ai.mp hm with q | q
   ·exact h2 (by simpa using q)
   ·exact h3 q)
theorem KU (c:Caught X pins H s ex T Cc):∃ a0,s.heap.TracedW (aV s.heap (yH ex (some T) X)) ex (.ref Cc) a0:=by
 obtain ⟨oe,vs,oT,ts,a1,a2,a3,a4,a5,a6,a7,a8⟩:=c.fly
 have hz:0 < vs.size:=Nat.lt_of_succ_lt (Array.getElem?_eq_some_iff.mp a4).1
 exact ⟨vs[0],oe,vs,T,oT,ts,a1,⟨a2,by simp [hz]⟩,a3,a4,cy _ (ae _ (bV _ (by simp))),a5,a6,a7,a8⟩
theorem QK (I:Inv X pins σ H s) (hstk:X.stack=X.env::X.outer):s.heap.FunFrames (aV s.heap (yH ex (some T) X)) (X.env::X.outer):=by
 rw [<-hstk]
 exact PySem.W.funFrames_hide I.stack fun env he b hb=>ae _ (aM _ (KR hstk env he b hb))
theorem KW {E:Value->Shared->Prop} {Q:Unit->Shared->Prop} (hA:A.frames=some X.stack) (I:Inv X pins σ H s) (hstk:X.stack=X.env::X.outer) (hfr:X.env.frame=some X.env.locals) (hx0:X.ex=[]) (c:Caught X pins H s ex T Cc)
  (k:∀ s' T',Inv X pins σ H s'->Caught X pins H s' ex T' Cc->Q () s'):wpAny (model X.prog X.w) A (noteFrame (.ref ex) X.env) (fun _ s1=>wpAny (model X.prog X.w) A (setFlight (.ref ex) none) Q E s1) E s:=by
 obtain ⟨a0,tr⟩:=KU c
 refine wpAny_looks_onW (by rw [hA,hstk]) hfr ⟨fun b o e=>dn _ e,cy _ (ac.mpr (.inl rfl)),QK I hstk,tr⟩ fun h1 held u1=>?_
 refine wpAny_landsW held fun h2 fl u2=>?_
 have slot:∀ b o,s.heap.get? b=some o->b∈frs X.stack->∃ sl,h2.get? b=some { o with slots:=sl }:=fun b o e hb=>by
  obtain ⟨o',e',nf⟩:=yI I hb
  rw [e] at e'; cases e'
  obtain ⟨sl,q⟩:=u1 b o e nf
  obtain ⟨sl2,q2⟩:=u2 b _ q nf
  exact ⟨sl2,q2⟩
 obtain ⟨T',c'⟩:=QI I hx0 c slot fl.2.2.2
 have I2:Inv X pins σ H { s with heap:=h2 }:=UI I hstk hfr hx0 c (QJ fl.1) slot
 exact k { s with heap:=h2 } T' I2 c'
theorem gi {A:Around} {E:Value->Shared->Prop} {Q:Unit->Shared->Prop} (I:Inv X pins σ H s) (hstk:X.stack=X.env::X.outer) (hfr:X.env.frame=some X.env.locals) (hx0:X.ex=[]) (c:Caught X pins H s ex T Cc)
  (k:∀ s' T',Inv X pins σ H s'->Caught X pins H s' ex T' Cc->Q () s'):wpAny (model X.prog X.w) A (setFlight (.ref ex) none) Q E s:=by
 obtain ⟨a0,tr⟩:=KU c
 refine wpAny_setFlight_noneW (base:=aV s.heap (yH ex (some T) X)) (fun b o e=>dn _ e) (QK I hstk) tr fun h2 st _ tr2 kp=>?_
 have slot:∀ b o,s.heap.get? b=some o->b∈frs X.stack->∃ sl,h2.get? b=some { o with slots:=sl }:=fun b o e hb=>by
  obtain ⟨o',e',nf⟩:=yI I hb
  rw [e] at e'; cases e'
  exact ⟨o.slots,kp b o e nf⟩
 obtain ⟨T',c'⟩:=QI I hx0 c slot tr2
 exact k _ T' (UI I hstk hfr hx0 c (QJ st) slot) c'
theorem qeN (I:Inv X pins σ H s) (c:Caught X pins H s ex T Cc):Inv X pins σ (upd H ex (QB ex Cc)) s:=by
 obtain ⟨oe,vs,oT,ts,a1,a2,a3,_⟩:=c.fly
 have nf:∀ b o,s.heap.get? b=some o->(∀ vs,o.data≠.fields vs)->b≠ex:=fun b o e n=>by
  rintro rfl; rw [a1] at e; cases e; exact n _ a3
 have up:∀ {b:Addr} {u:HO},H b=some u->upd H ex (QB ex Cc) b=some u:=fun {b u} e=>by rw [qD (qK e c.hex)]; exact e
 refine ⟨I.ok,I.os,I.bare,⟨I.base.keep,I.base.slot,fun b o e n hx=>?_,I.base.there,fun b xs e=>up (I.base.tups b xs e),fun b o u e=>up (I.base.frzs b o u e),fun b ps e=>?_⟩,I.loc,I.cell,?_,fun x a e=>?_,fun p hp=>?_,fun b u e=>?_,I.len⟩
 ·rw [qD (by rintro rfl; rw [c.n1] at e; cases e)]; exact I.base.free b o e n hx
 ·obtain ⟨more,z⟩:=I.base.tbls b ps e
  exact ⟨more,up z⟩
 ·obtain ⟨m,⟨o,es,ep,ho,hd,_⟩,_⟩:=I.loc
  rw [qD (nf _ o ho fun vs z=>by rw [hd] at z; cases z)]; exact I.free
 ·obtain ⟨v,oc,e1,e2⟩:=I.cell x a e
  rw [qD (nf _ oc e1 fun vs z=>by rw [e2] at z; cases z)]; exact I.freeC x a e
 ·obtain ⟨b1,b2,b3⟩:=I.pin p hp
  refine ⟨b1,?_,b3⟩
  rw [qD (c.pp p hp).1]; exact b2
 ·by_cases q:b=ex
  ·subst q
   rw [qw] at e; cases e
   refine ⟨⟨oe,vs,a1,a2,a3⟩,⟨oe,a1⟩,fun h1 h2 ⟨o1,v1,e1,e2,e3⟩ kk=>⟨o1,v1,kk _ e1,e2,e3⟩⟩
  ·rw [qD q] at e
   exact (I.hok b u e).stay (fun _ _ _ z=>z) (fun d z=>up z) fun d xs z=>up z
def Jn (X:Cx) (pn:List (Addr×Obj)) (xe:Value->Shared->Prop):Cx:={ X with pn:=pn,xe:=xe }
theorem Zy (I:Inv X pins σ H s):Inv (Jn X (X.pn++pins) xe) [] σ H s:=
 ⟨⟨I.ok.mod,I.ok.kind,I.ok.glob,I.ok.blt,I.ok.above,I.ok.inj,I.ok.has,I.ok.cab,I.ok.hd,I.ok.frames,I.ok.stk,I.ok.exf,I.ok.bs,I.ok.bsz,I.ok.noex,I.ok.exfs,I.ok.funs,I.ok.frf⟩,I.os,I.bare,I.base,I.loc,I.cell,I.free,I.freeC,fun p hp=>I.pin p (by simpa [Jn] using hp),I.hok,I.len⟩
theorem ke {pins':List (Addr×Obj)} (I:Inv (Jn X (X.pn++pins) xe) pins' σ H s):Inv X pins σ H s:=
 ⟨⟨I.ok.mod,I.ok.kind,I.ok.glob,I.ok.blt,I.ok.above,I.ok.inj,I.ok.has,I.ok.cab,I.ok.hd,I.ok.frames,I.ok.stk,I.ok.exf,I.ok.bs,I.ok.bsz,I.ok.noex,I.ok.exfs,I.ok.funs,I.ok.frf⟩,I.os,I.bare,I.base,I.loc,I.cell,I.free,I.freeC,fun p hp=>I.pin p (bV _ hp),I.hok,I.len⟩
noncomputable def qdQ (X:Cx) (e:Value):Cx:={ X with A:=X.A.mark (some e),calm:=false,xe:=fun _ _=>False }
theorem UJ {e:Value} (I:Inv X pins σ H s):Inv (qdQ X e) pins σ H s:=
 ⟨⟨I.ok.mod,I.ok.kind,I.ok.glob,I.ok.blt,I.ok.above,I.ok.inj,I.ok.has,I.ok.cab,fun z=>absurd z (by show ¬(false=true); exact aY),I.ok.frames,I.ok.stk,I.ok.exf,I.ok.bs,I.ok.bsz,I.ok.noex,I.ok.exfs,I.ok.funs,I.ok.frf⟩,I.os,I.bare,I.base,I.loc,I.cell,I.free,I.freeC,I.pin,I.hok,I.len⟩
theorem Zz {e:Value} (hok:X.Ok) (I:Inv (qdQ X e) pins σ H s):Inv X pins σ H s:=
 ⟨hok,I.os,I.bare,I.base,I.loc,I.cell,I.free,I.freeC,I.pin,I.hok,I.len⟩
theorem YQ {m':Str->Option Value} {t:Nat} (I:Inv X pins σ H s) (hstk:X.stack=X.env::X.outer) (hfr:X.env.frame=some X.env.locals) (hns:h'.Ns X.env.locals m') (sb:bD X.env.locals s.heap h'):Inv X pins (σ.map fun _=>none) H { s with heap:=h',toks:=t }:=by
 have neL:∀ b o,X.s₀.heap.get? b=some o->b≠X.env.locals:=fun b o e=>aA (aD (am e) I.ok.above)
 obtain ⟨m,⟨oL,es,ep,hoL,hdL,_⟩,_⟩:=id I.loc
 have cL:∀ {a:Addr} {v:Option Value},s.heap.IsCell a v->a≠X.env.locals:=fun {a v} ⟨oc,e1,e2⟩=>by
  rintro rfl; rw [hoL] at e1; cases e1; rw [hdL] at e2; cases e2
 refine ⟨I.ok,I.os,I.bare,⟨fun b o e n hb hx=>(sb.2 b (neL b o e)).trans (I.base.keep b o e n hb hx),fun b o e n hb hx=>?_,I.base.free,fun b o e hx=>?_,I.base.tups,I.base.frzs,I.base.tbls⟩,⟨m',hns,fun i x v e1 e2=>?_⟩,fun x a e=>?_,I.free,I.freeC,fun p hp=>?_,fun b u e=>?_,by simp [I.len]⟩
 ·obtain ⟨sl,q⟩:=I.base.slot b o e n hb hx
  exact ⟨sl,(sb.2 b (neL b o e)).trans q⟩
 ·obtain ⟨o',q⟩:=I.base.there b o e hx
  exact ⟨o',(sb.2 b (neL b o e)).trans q⟩
 ·simp only [aH] at e2
  cases q:σ[i]? <;> rw [q] at e2 <;> cases e2
 ·obtain ⟨v,z⟩:=I.cell x a e
  exact ⟨v,z.sameBut sb (cL z)⟩
 ·obtain ⟨a1,a2,a3,a4⟩:=I.pin p hp
  exact ⟨(sb.2 p.1 a3).trans a1,a2,a3,a4⟩
 ·refine (I.hok b u e).stay (fun d v hc q=>(sb.2 d ?_).trans q) (fun _ q=>q) fun _ _ q=>q
  rintro rfl
  rcases hc with z | z
  ·rw [<-z,I.free] at e; cases e
  ·rw [I.free] at z; cases z
end
def qfS (C:Ct) (own:List Nat) (E:XK):Ct:=⟨C.K,C.cv,E,own,C.mr,C.ol,own,fun _ h=>h⟩
noncomputable def exC (C:Ct):Ct:=⟨C.K,C.cv,fun _ _ _=>False,[],C.mr,[],[],fun _ h=>h⟩
noncomputable def VW (n:Nat) (j:Option Nat) (hit:Str->Option Addr) (fb fs:Sl->Out (Fl×Sl)):Sl->Out (Fl×Sl):=fun ρ=>match fb ρ with
 | .exc c ρe=>match hit c with
  | some Cc=>match fs (match j with | some j=>(aE n none).set j (some (.xcp Cc)) | none=>aE n none) with
   | .ok (.rt d,_)=>.ok (.rt d,ρe)
   | _=>.bad
  | none=>.bad
 | o=>o
def qeO (C:Ct) (own:List Nat) (σ:St) (F H:Hp) (r:Out (Fl×Sl)):XK:=fun cls _ H'=>∃ c ρe F',r=.exc c ρe/\cls=C.cv c/\Same F' H'/\Xv C.K own F' H' σ ρe/\Chg (OA own σ) F H F' H'
def qfT (X:Cx) (pins:List (Addr×Obj)) (E:XK):Value->Shared->Prop:=fun e s'=>∃ σ ex T Cc H',e=.ref ex/\Inv X pins σ H' s'/\Caught X pins H' s' ex T Cc/\E (.ref Cc) none H'
section
variable {fs:Sl->Out (Fl×Sl)}
theorem QL {E:XK} (hx0:X.ex=[]):vY (CXk X.prog X.w) (Jn X (X.pn++pins) (qfT X pins E)) E:=fun pins' σ H s e s' I h=>by
 obtain ⟨ex,T,Cc,H',rfl,os,bare,un,hok,fl,e1,e2,n1,n2,hE⟩:=h
 have old:∀ b,s.heap.get? b=none->X.s₀.heap.get? b=none:=fun b hb=>by
  cases q:X.s₀.heap.get? b with
  | none=>rfl
  | some o=>
   obtain ⟨o',e'⟩:=I.base.there b o q (by show b∉X.ex; rw [hx0]; simp)
   rw [hb] at e'; cases e'
 have I2:Inv (Jn X (X.pn++pins) (qfT X pins E)) pins' σ H' s':=I.call' (ch:=[]) os un hok bare (fun b z=>absurd z (by simp))
 refine ⟨σ,ex,T,Cc,H',rfl,ke I2,⟨fl,e1,e2,old ex n1,old T n2,fun p hp=>?_⟩,hE⟩
 have q:=(I.pin p (bV _ hp)).1
 exact ⟨fun z=>(by rw [z,n1] at q; cases q),fun z=>(by rw [z,n2] at q; cases q)⟩
theorem Nx.untry {E:XK} {σ':St} {ρ':Sl} (hsub:∀ i∈C.io,i∈own) (n:Nx (qfS C own E) o1 o2 σ F H ρ' σ' F' H'):Nx C o1 o2 σ F H ρ' σ' F' H':=⟨n.rep,n.chg,n.oa,fun i hi=>n.io i (hsub i hi)⟩
theorem UK {D:Ends} {j:Option Nat} {hit:Str->Option Addr} (hsub:∀ i∈C.io,i∈own) (rp:Rep C.K own F H σ ρ) (h:PoS C own own' σ F H (VW n j hit fb fs ρ) D):tSt (qfS C own (qeO C own σ F H (fb ρ))) own own' fb D σ H:=by
 refine ⟨F,ρ,rp,?_⟩
 unfold VW at h
 cases q:fb ρ with
 | ok p=>
  rw [q] at h
  obtain ⟨fl,ρ'⟩:=p
  cases fl with
  | nx=>exact fun σ' F' H' nn=>h σ' F' H' (nn.untry hsub)
  | rt d=>exact fun v σ' F' H' s io c e mo=>h v σ' F' H' s (fun i hi=>io i (hsub i hi)) c (fun i hi=>e i (hsub i hi)) mo
  | bk=>exact fun σ' F' H' nn=>h σ' F' H' (nn.untry hsub)
  | ct=>exact fun σ' F' H' nn=>h σ' F' H' (nn.untry hsub)
 | exc c ρe=>exact fun F' H' s io ch=>⟨c,ρe,F',rfl,rfl,s,io,ch⟩
 | bad=>rw [q] at h; exact h.elim
theorem KY {F3 H3:Hp} {Cc:Addr} {D:Ends} {d:D2.D} {v:V} {σw:St} (hsub:∀ i∈C.io,i∈own) (h:PoS C own own' σ F H (.ok (.rt d,ρe)) D) (hn:H1 ex=none) (sb:Same F1 H1) (io:Xv C.K own F1 H1 σ ρe) (ch:Chg (OA own σ) F H F1 H1)
  (s3:Same F3 H3) (c3:Chg (OA [] σw) (upd F1 ex (QB ex Cc)) (upd H1 ex (QB ex Cc)) F3 H3) (mo:MoIs C.K C.mr (upd H1 ex (QB ex Cc)) F3 H3 v d):D.rt v H3:=by
 obtain ⟨sb2,c2⟩:=wu (u:=QB ex Cc) sb hn
 have no:∀ {b},OA [] σw b->False:=fun ⟨i,hi,_⟩=>by simp at hi
 have c3':Chg No (upd F1 ex (QB ex Cc)) (upd H1 ex (QB ex Cc)) F3 H3:=c3.mono fun x z=>no z
 have c12:Chg No F1 H1 F3 H3:=c2.trans c3' fun _ z=>z.elim
 refine h v σ F3 H3 s3 (fun i hi=>?_) (ch.trans c12 fun _ z=>z.elim) (fun _ _=>rfl) (MoIs.back (Ha:=H3) (ch.trans c2 fun _ z=>z.elim) mo)
 obtain ⟨d',a,e1,e2,e3,e4⟩:=io i (hsub i hi)
 refine ⟨d',a,e1,e2,?_,e4.grow c12.grow fun o q=>c12.keep a o q fun z=>z⟩
 cases q:F3 a with
 | none=>rfl
 | some u=>
  rcases c12.new a (by rw [q]; simp) with z | z | z
  ·exact absurd e3 z
  ·exact absurd z e4.there
  ·exact z.elim
theorem qc3 {cn en:Str} {np hpos pos:Pos} {body suite:List Stmt} {b0:Stmt} {cls:Value} {n j:Nat} {hit:Str->Option Addr} {own2:List Nat} (hx0:X.ex=[]) (hstk:X.stack=X.env::X.outer) (hfr:X.env.frame=some X.env.locals)
  (hg:Gl X cn) (hm:X.mg cn=some cls) (hhit:∀ c Cc,hit c=some Cc->C.cv c=.ref Cc/\bu X.K (.ref Cc) cls=some true) (hN:X.N.Nodup) (hj:X.N[j]?=some en) (hx:X.env.scope.names.lookup en=some .local) (hn:X.N.length=n)
  (hb:∀ pn xe E,vY (CXk X.prog X.w) (Jn X pn xe) E->PSs (Jn X pn xe) body (tSt (qfS C own E) own own' fb)) (hs:∀ e,PSs (qdQ X e) (b0::suite) (tSt (exC C) [] own2 fs)) (hsub:∀ i∈C.io,i∈own:=by exact vZ rfl) (hd:(cn == ("__debug__":Str))=false:=by decide) :
  PS X (.Try body [.ExceptHandler (some (.Name cn np)) (some en) (b0::suite) hpos] [] [] pos) (tSt C own own' (VW n (some j) hit fb fs)):=by
 refine ⟨?_⟩
 intro pins s σ H D I ⟨F,ρ,rp,h⟩
 have run:=hb (X.pn++pins) (qfT X pins (qeO C own σ F H (fb ρ))) (qeO C own σ F H (fb ρ)) (QL hx0) [] s σ H D (Zy I) (UK hsub rp h)
 refine wpAny_Try_except (wpAny_mono run (fun f s1 hf=>?_) fun e s1 he=>?_)
 ·cases f with
  | next=>
   obtain ⟨σ',H',I',q⟩:=hf
   exact Wc pins s1 σ' H' D (ke I') q
  | brk=>obtain ⟨σ',H',I',q⟩:=hf; exact ⟨σ',H',ke I',q⟩
  | cont=>obtain ⟨σ',H',I',q⟩:=hf; exact ⟨σ',H',ke I',q⟩
  | ret u=>obtain ⟨v,σ',H',I',r,q⟩:=hf; exact ⟨v,σ',H',ke I',r,q⟩
 ·obtain ⟨σ1,ex,T,Cc,H1,rfl,I1,c1,c,ρe,F1,hr,hcls,sb1,io1,ch1⟩:=he
  refine KW I1.ok.frames I1 hstk hfr hx0 c1 fun s2 T2 I2 c2=>?_
  unfold VW at h
  rw [hr] at h
  cases qh:hit c with
  | none=>simp only [qh] at h; exact h.elim
  | some Ch=>
   simp only [qh] at h
   obtain ⟨hc1,hc2⟩:=hhit c Ch qh
   rw [hc1] at hcls
   obtain rfl:Cc=Ch:=by injection hcls
   refine wpAny_handleBy_cons (codeAny_handlers_test (xp (X:=qdQ X (.ref ex)) (UJ I2) hg hm ?_ hd)) (by intro q; cases q)
   obtain ⟨oe,vs,oT,ts,a1,a2,a3,_⟩:=id c2.fly
   have LT:PySem.W.Looks (model X.prog X.w) s2.heap (typeOf (.ref ex)) (.ref Cc):=by rw [<-a2]; exact (PySem.W.Looks.ld a1).andThen .now
   refine (PySem.W.exm_one I2.kIn LT hc2) _ _ _ _ (fun _ _ z=>z) ?_
   refine codeAny_handlers_suite_as (gi I2 hstk hfr hx0 c2 fun s3 T3 I3 c3=>?_)
   have I4:=qeN I3 c3
   refine Je I4 hN hj (.inl hx) (v:=.ref ex) rfl (fun s5 I5=>?_) (.inr hx)
   have hjn:j < n:=by rw [<-hn]; exact (au.mp hj).1
   have I6:Inv X pins ((aE n none).set j (some (.ref ex))) (upd H1 ex (QB ex Cc)) s5:=I5.weak (by simp [I3.len,hn]) fun i v e=>by
    by_cases qi:i=j
    ·subst qi
     rw [aC (by simpa using hjn)] at e
     rw [aC (by rw [I3.len,hn]; exact hjn)]
     exact e
    ·rw [aj (aX qi),bg] at e
     split at e <;> cases e
   obtain ⟨sb2,cc2⟩:=wu (u:=QB ex Cc) sb1 c1.hex
   have rp6:Rep C.K [] (upd F1 ex (QB ex Cc)) (upd H1 ex (QB ex Cc)) ((aE n none).set j (some (V.ref ex))) ((aE n none).set j (some (.xcp Cc))):=by
    refine ⟨sb2,by simp,fun i d hi e=>?_,fun i d hi=>by simp at hi,fun i hi=>by simp at hi,fun i j a hi=>by simp at hi⟩
    by_cases qi:i=j
    ·subst qi
     rw [aC (by simpa using hjn)] at e
     cases e
     exact ⟨.ref ex,by rw [aC (by simpa using hjn)],.xcp qw⟩
    ·rw [aj (aX qi),bg] at e
     split at e <;> cases e
   have main:tSt (exC C) [] own2 fs { nx:=fun _ _=>False,rt:=D.rt } ((aE n none).set j (some (V.ref ex))) (upd H1 ex (QB ex Cc)):=by
    refine ⟨_,_,rp6,?_⟩
    cases qs:fs ((aE n none).set j (some (.xcp Cc))) with
    | ok p=>
     obtain ⟨fl,ρ5⟩:=p
     rw [qs] at h
     cases fl with
     | rt d=>exact fun v σ' F3 H3 s3 io c3 e mo=>KY (own':=own') (D:=D) (ex:=ex) (Cc:=Cc) hsub h c1.hex sb1 io1 ch1 s3 c3 mo
     | nx=>exact h.elim
     | bk=>exact h.elim
     | ct=>exact h.elim
    | exc _ _=>rw [qs] at h; exact h.elim
    | bad=>rw [qs] at h; exact h.elim
   refine wpAny_mono (hs (.ref ex) pins s5 _ _ _ (UJ I6) main) (fun f s7 hf=>?_) fun _ _ z=>z.elim
   cases f with
   | next=>obtain ⟨_,_,_,q⟩:=hf; exact q.elim
   | brk=>obtain ⟨_,_,_,q⟩:=hf; exact q.elim
   | cont=>obtain ⟨_,_,_,q⟩:=hf; exact q.elim
   | ret u=>
    obtain ⟨v,σ7,H7,I7,r7,q7⟩:=hf
    have I7':Inv X pins σ7 H7 s7:=Zz I.ok I7
    obtain ⟨m,hns,_⟩:=id I7'.loc
    refine wpAny_nameGoes hx hns (by rw [I.ok.kind]; rfl) fun h' m' hn' sb'=>?_
    exact ⟨v,_,H7,YQ I7' hstk hfr hn' sb',r7,q7⟩
theorem qaW {cn:Str} {np hpos pos:Pos} {body suite:List Stmt} {b0:Stmt} {cls:Value} {n:Nat} {hit:Str->Option Addr} {own2:List Nat} (hx0:X.ex=[]) (hstk:X.stack=X.env::X.outer) (hfr:X.env.frame=some X.env.locals)
  (hg:Gl X cn) (hm:X.mg cn=some cls) (hhit:∀ c Cc,hit c=some Cc->C.cv c=.ref Cc/\bu X.K (.ref Cc) cls=some true) (hn:X.N.length=n)
  (hb:∀ pn xe E,vY (CXk X.prog X.w) (Jn X pn xe) E->PSs (Jn X pn xe) body (tSt (qfS C own E) own own' fb)) (hs:∀ e,PSs (qdQ X e) (b0::suite) (tSt (exC C) [] own2 fs)) (hsub:∀ i∈C.io,i∈own:=by exact vZ rfl) (hd:(cn == ("__debug__":Str))=false:=by decide) :
  PS X (.Try body [.ExceptHandler (some (.Name cn np)) none (b0::suite) hpos] [] [] pos) (tSt C own own' (VW n none hit fb fs)):=by
 refine ⟨?_⟩
 intro pins s σ H D I ⟨F,ρ,rp,h⟩
 have run:=hb (X.pn++pins) (qfT X pins (qeO C own σ F H (fb ρ))) (qeO C own σ F H (fb ρ)) (QL hx0) [] s σ H D (Zy I) (UK hsub rp h)
 refine wpAny_Try_except (wpAny_mono run (fun f s1 hf=>?_) fun e s1 he=>?_)
 ·cases f with
  | next=>
   obtain ⟨σ',H',I',q⟩:=hf
   exact Wc pins s1 σ' H' D (ke I') q
  | brk=>obtain ⟨σ',H',I',q⟩:=hf; exact ⟨σ',H',ke I',q⟩
  | cont=>obtain ⟨σ',H',I',q⟩:=hf; exact ⟨σ',H',ke I',q⟩
  | ret u=>obtain ⟨v,σ',H',I',r,q⟩:=hf; exact ⟨v,σ',H',ke I',r,q⟩
 ·obtain ⟨σ1,ex,T,Cc,H1,rfl,I1,c1,c,ρe,F1,hr,hcls,sb1,io1,ch1⟩:=he
  refine KW I1.ok.frames I1 hstk hfr hx0 c1 fun s2 T2 I2 c2=>?_
  unfold VW at h
  rw [hr] at h
  cases qh:hit c with
  | none=>simp only [qh] at h; exact h.elim
  | some Ch=>
   simp only [qh] at h
   obtain ⟨hc1,hc2⟩:=hhit c Ch qh
   rw [hc1] at hcls
   obtain rfl:Cc=Ch:=by injection hcls
   refine wpAny_handleBy_cons (codeAny_handlers_test (xp (X:=qdQ X (.ref ex)) (UJ I2) hg hm ?_ hd)) (by intro q; cases q)
   obtain ⟨oe,vs,oT,ts,a1,a2,a3,_⟩:=id c2.fly
   have LT:PySem.W.Looks (model X.prog X.w) s2.heap (typeOf (.ref ex)) (.ref Cc):=by rw [<-a2]; exact (PySem.W.Looks.ld a1).andThen .now
   refine (PySem.W.exm_one I2.kIn LT hc2) _ _ _ _ (fun _ _ z=>z) ?_
   refine codeAny_handlers_suite (gi I2 hstk hfr hx0 c2 fun s3 T3 I3 c3=>?_)
   have I4:=qeN I3 c3
   have I6:Inv X pins (aE n none) (upd H1 ex (QB ex Cc)) s3:=I4.weak (by simp [I3.len,hn]) fun i v e=>by
    rw [bg] at e
    split at e <;> cases e
   obtain ⟨sb2,cc2⟩:=wu (u:=QB ex Cc) sb1 c1.hex
   have rp6:Rep C.K [] (upd F1 ex (QB ex Cc)) (upd H1 ex (QB ex Cc)) (aE n none) (aE n none):=by
    refine ⟨sb2,by simp,fun i d hi e=>?_,fun i d hi=>by simp at hi,fun i hi=>by simp at hi,fun i j a hi=>by simp at hi⟩
    rw [bg] at e
    split at e <;> cases e
   have main:tSt (exC C) [] own2 fs { nx:=fun _ _=>False,rt:=D.rt } (aE n none) (upd H1 ex (QB ex Cc)):=by
    refine ⟨_,_,rp6,?_⟩
    cases qs:fs (aE n none) with
    | ok p=>
     obtain ⟨fl,ρ5⟩:=p
     rw [qs] at h
     cases fl with
     | rt d=>exact fun v σ' F3 H3 s3 io c3 e mo=>KY (own':=own') (D:=D) (ex:=ex) (Cc:=Cc) hsub h c1.hex sb1 io1 ch1 s3 c3 mo
     | nx=>exact h.elim
     | bk=>exact h.elim
     | ct=>exact h.elim
    | exc _ _=>rw [qs] at h; exact h.elim
    | bad=>rw [qs] at h; exact h.elim
   refine wpAny_mono (hs (.ref ex) pins s3 _ _ _ (UJ I6) main) (fun f s7 hf=>?_) fun _ _ z=>z.elim
   cases f with
   | next=>obtain ⟨_,_,_,q⟩:=hf; exact q.elim
   | brk=>obtain ⟨_,_,_,q⟩:=hf; exact q.elim
   | cont=>obtain ⟨_,_,_,q⟩:=hf; exact q.elim
   | ret u=>
    obtain ⟨v,σ7,H7,I7,r7,q7⟩:=hf
    exact ⟨v,σ7,H7,Zz I.ok I7,r7,q7⟩
end
structure RoomQ (k:Nat) (A:Around):Prop where
 dp:A.depth+3 * k+5 < recursionLimit
 un:A.units+16 * k+200 < cLine
theorem RoomQ.deeper {k:Nat} (r:RoomQ (k+1) A) (env:Env):RoomQ k (A.deeper env):=
 ⟨by have:=r.dp; show A.depth+1+3 * k+5 < _; omega,by have:=r.un; show A.units+3+16 * k+200 < _; omega⟩
theorem RoomQ.depth {k:Nat} (r:RoomQ k A):A.depth < recursionLimit:=by have:=r.dp; omega
theorem RoomQ.units {k:Nat} (r:RoomQ k A):A.units+64 < cLine:=by have:=r.un; omega
theorem _root_.L2.Room.quiet {k:Nat} (r:Room k A):RoomQ k A:=⟨r.dp,r.un⟩
theorem RoomQ.mark {k:Nat} (r:RoomQ k A) (e:Option Value):RoomQ k (A.mark e):=⟨r.dp,r.un⟩
structure FnQ (P:Program) (w:World) (K:Frag) (mg:Str->Option Value) (base:Heap) (CX:CXT) (k:Nat) (f:Addr) (fd:FuncData) (ps:List Str) (sp:Sp):Prop where
 len:∀ vs H Q E,sp vs H Q E->vs.length=ps.length
 run:∀ (A:Around) (outer:List Env) (s:Shared) (H:Hp) (args:Args) (us:List Value) (vs:List V) (Q:VK) (E:XK),RoomQ k A->Env0 P w K mg base A outer s H->BindsTo s fd args (ps.zip us)->Vals vs us->sp vs H Q E ->
  codeAny (model P w) A (.call (.ref f) args) (CR CX outer P w H s Q E) s
def cxQ (CX:CXT) (P:Program) (w:World) (K:Frag) (mg:Str->Option Value) (base:Heap) (N:List Str) (qual:Str) (scope:Scope) (f:Addr) (cd:Value) (A:Around) (outer:List Env) (s:Shared) (H:Hp) (E:XK):Cx where
 prog:=P
 w:=w
 K:=K
 mg:=mg
 base:=base
 A:=A.deeper (envOfC qual scope s.heap.objs.size f cd)
 N:=N
 s₀:=s
 H₀:=H
 env:=envOfC qual scope s.heap.objs.size f cd
 outer:=outer
 stack:=envOfC qual scope s.heap.objs.size f cd::outer
 ex:=[]
 calm:=false
 fn:=fun _=>true
 pn:=[]
 xe:=fun e s'=>wpAny (model P w) (A.deeper (envOfC qual scope s.heap.objs.size f cd)) (leaving (envOfC qual scope s.heap.objs.size f cd) e) (fun _ s''=>CX outer H s E e s'') (fun e' s''=>CX outer H s E e' s'') s'
theorem YR {CX:CXT} {P:Program} {w:World} {K:Frag} {mg:Str->Option Value} {base:Heap} {N ps:List Str} {qual:Str} {scope:Scope} {f:Addr} {cd:Value} {A:Around} {outer:List Env} {s s1:Shared} {H:Hp} {E:XK} {us:List Value} {vs:List V}
  (S:FnScope N ps scope) (e0:Env0 P w K mg base A outer s H) (hl:vs.length=ps.length) (r:Vals vs us)
  (x:InCallC s s.heap.objs.size (bindL (envOfC qual scope s.heap.objs.size f cd).kindOf (ps.zip us) fun _=>none) (cellsFrom (s.heap.objs.size+1) scope.names []) (bindC (envOfC qual scope s.heap.objs.size f cd).kindOf (ps.zip us) fun _=>none) s1) :
  Inv (cxQ CX P w K mg base N qual scope f cd A outer s H E) [] (vQ N vs) H s1:=by
 have hpl:ps.length<=N.length:=by have:=congrArg fC S.pre; rw [eG] at this; omega
 obtain ⟨h1,tk,rfl,hk⟩:=x.done
 have noA:∀ b:Addr,b∉(cxQ CX P w K mg base N qual scope f cd A outer s H E).ex:=fun b z=>absurd (show b∈([]:List Addr) from z) (by simp)
 refine ⟨⟨e0.mod,S.kind,rfl,rfl,ao _,fun y z c h1 h2=>?_,fun y hy=>?_,fun y c _ h=>?_,fun z=>absurd z (by show ¬(false=true); exact aY),Around.frames_deeper e0.frames,.inr ⟨rfl,rfl⟩,fun b z=>absurd z (noA b),e0.bs,e0.bsz,fun b _ _=>noA b,fun b z=>absurd z (noA b),e0.funs,e0.frf⟩,
  rfl,e0.bare,Un.kept hk,⟨_,x.toInCall.ns,fun i y v h1 h2 h3=>?_⟩,fun y c h=>⟨_,x.cell y c h⟩,e0.hok.fresh (ao _),fun y c h=>?_,fun p hp=>absurd (show p∈([]:List (Addr×Obj)) from hp) (by simp),e0.hok.kept hk,?_⟩
 ·exact name_of_addr x.apart (be h1) (be h2)
 ·have hy:scope.names.lookup y=some .cell\/scope.names.lookup y=some .free:=hy
  rcases hy with hy | hy
  ·exact zB hy
  ·exact absurd rfl (S.nofree _ (be hy))
 ·exact cU (x.above y c (be h))
 ·have hi:i < vs.length:=by
   unfold vQ at h2
   by_cases hi:i < vs.length
   ·exact hi
   ·rw [bI (by simpa using hi)] at h2
    rw [bg] at h2
    split at h2 <;> cases h2
  have ha:vs[i]?=some v:=by
   unfold vQ at h2
   rw [cr (by simpa using hi),aH] at h2
   cases e:vs[i]? with
   | none=>rw [e] at h2; cases h2
   | some a=>rw [e] at h2; cases h2; rfl
  obtain ⟨u,hu,rv⟩:=r.get ha
  have hp:ps[i]?=some y:=by
   rw [<-S.pre,List.getElem?_take_of_lt (by omega)]; exact h1
  have ndP:ps.Nodup:=by rw [<-S.pre]; exact S.nd.sublist (List.take_sublist _ _)
  refine ⟨u,rv,?_⟩
  rcases S.par y (cA hp) with k | k
  ·exact .inl ⟨k,zY ndP hp hu k⟩
  ·obtain ⟨c,e⟩:=zB (n:=s.heap.objs.size+1) k
   refine .inr ⟨.inl k,c,e,?_⟩
   have q:=x.cell y c e
   rw [zZ ndP hp hu (by show scope.names.lookup y≠_; rw [k]; decide)] at q
   exact q
 ·exact e0.hok.fresh (cU (x.above y c (be h)))
 ·unfold vQ
  show _=N.length
  rw [af,aB,c6]
  omega
theorem qeP {CX:CXT} {P:Program} {w:World} {K:Frag} {mg:Str->Option Value} {base:Heap} {k:Nat} {f:Addr} {name qual:Str} {params:Arguments} {body:List Stmt} {scope:Scope} {dV kV doc pm cdv ct oc:Value} {an od:Option Addr}
  {osl:Array (Option Value)} {N ps:List Str} {sp:Sp} (lk:K.lookup f=some ⟨oc,od,.func (bJ name qual params body scope dV kV doc pm an cdv ct),osl⟩) (hcd:codeIn K cdv qual=true) (S:FnScope N ps scope)
  (len:∀ vs H Q E,sp vs H Q E->vs.length=ps.length)
  (hbody:∀ (A:Around) (outer:List Env) (s:Shared) (H:Hp) (vs:List V) (Q:VK) (E:XK),RoomQ k (A.deeper (envOfC qual scope s.heap.objs.size f cdv))->sp vs H Q E ->
   ∃ t,PSs (cxQ CX P w K mg base N qual scope f cdv A outer s H E) body t/\t { nx:=fun _ H'=>Q .non H',rt:=Q } (vQ N vs) H) :
  FnQ P w K mg base CX (k+1) f (bJ name qual params body scope dV kV doc pm an cdv ct) ps sp:=by
 refine ⟨len,fun A outer s H args us vs Q E hr e0 hb r hsp=>?_⟩
 have hl:=len _ _ _ _ hsp
 have KX:K.In s.heap:=e0.mod.kin.keeps fun b o e=>(e0.bs b o e).1
 have lim:s.heap.NoLimit:=e0.mod.nolimit.keeps fun b o e=>(e0.bs b o e).1
 have hkind:∀ y∈ps.zip us,scope.names.lookup y.1=some .local\/(scope.names.lookup y.1=some .cell/\((cellsFrom (s.heap.objs.size+1) scope.names []).lookup y.1).isSome=true):=fun ⟨n,v⟩ hy=>by
  rcases S.par n (dN hy).1 with q | q
  ·exact .inl q
  ·exact .inr ⟨q,dB _ _ _ (.inl q)⟩
 refine codeAny_call_function hr.depth (KX _ _ lk) rfl S.co S.gen rfl (PySem.W.codeRec_of KX hcd) (hb _ _ _ _ ?_)
 refine wpAny_newFunctionEnv_cells S.kind hkind fun env he s1 x=>?_
 subst he
 refine ⟨lim.keeps x.toInCall.keep,codeAny_func ?_⟩
 obtain ⟨t,ht,hq⟩:=hbody A outer s H vs Q E (hr.deeper _) hsp
 have I:Inv (cxQ CX P w K mg base N qual scope f cdv A outer s H E) [] (vQ N vs) H s1:=YR S e0 hl r x
 refine wpAny_mono (ht [] s1 (vQ N vs) H _ I hq) (fun fl s' hs=>?_) fun e s' hs=>hs
 have fin:∀ {σ':St} {H':Hp} {v:V} {u:Value},Inv (cxQ CX P w K mg base N qual scope f cdv A outer s H E) [] σ' H' s'->RelV v u->Q v H'->CE outer P w H s Q u s':=
  fun {σ' H' v u} J rv q=>⟨v,H',J.os,J.bare,J.base,J.hok,rv,q⟩
 cases fl with
 | ret u=>
  obtain ⟨v,σ',H',J,rv,q⟩:=hs
  exact fin J rv q
 | next=>
  obtain ⟨σ',H',J,q⟩:=hs
  exact fin (v:=V.non) (u:=cC) J rfl q
 | brk=>
  obtain ⟨_,_,_,q⟩:=hs
  exact bS q
 | cont=>
  obtain ⟨_,_,_,q⟩:=hs
  exact bS q
theorem qgB {P:Program} {w:World} {K:Frag} {mg:Str->Option Value} {base:Heap} {CX:CXT} {x qual:Str} {st:Stmt} {f:Addr} {fd:FuncData} {N ps:List Str} {k:Nat} {cv:Str->Value} {ms:List PM} {mr:Mo} {own':List Nat} {fb:Sl->Out (Fl×Sl)} {G:List D->Out (D×List D)}
  (F:Fun K x qual st f fd) (S:FnScope N ps (qe st)) (hl:ms.length=ps.length) (hsub:∀ i∈Wn 0 ms,i∈own') (hmr:mr=.sh\/∀ ds ρ,(fb (qu N ds))≠.ok (.nx,ρ))
  (hbody:∀ (cdv:Value) (A:Around) (outer:List Env) (s:Shared) (H:Hp) (E:XK),RoomQ k (A.deeper (envOfC qual (qe st) s.heap.objs.size f cdv)) ->
   PSs (cxQ CX P w K mg base N qual (qe st) f cdv A outer s H E) (kJ st) (tSt (qdP K cv E ms mr) (kb 0 ms) own' fb))
  (hG:∀ ds,Out.le (G ds) (jT N ms fb ds)):FnQ P w K mg base CX (k+1) f fd ps (spD K cv ms mr G):=by
 obtain ⟨oc,od,kV,doc,pm,an,cdv,ct,osl,rfl,lk,hcd⟩:=F.ex
 refine qeP lk hcd S (fun vs H Q E h=>?_) fun A outer s H vs Q E hr hsp=>?_
 ·obtain ⟨F,ds,_,ar,_⟩:=h
  rw [ar.length.1,hl]
 ·obtain ⟨F1,ds,sb,ar,nd,h⟩:=hsp
  refine ⟨_,hbody cdv A outer s H E hr,?_⟩
  exact Zp (C:=qdP K cv E ms mr) rfl rfl (hmr.imp id fun z ρ=>z ds ρ) hsub sb ar nd (hG ds) h
section
variable {fr:Sl->Out (List D×Sl)}
theorem qc4 {k:Nat} {f:Addr} {sp:Sp} {E:XK} {pins:List (Addr×Obj)} {σ:St} {H:Hp} {s:Shared} {Q:VK} {us:List Value} {vs:List V} (F:FnQ X.prog X.w X.K X.mg X.base CX k f fd ps sp) (hr:RoomQ k X.A) (hb:Binds X.K fd ps []) (hx:vY CX X E)
  (I:Inv X pins σ H s) (r:Vals vs us) (h:sp (vs++[]) H Q E):wpAny (model X.prog X.w) X.A (call (.ref f) us) (EP X pins σ Q) X.xe s:=by
 have r2:Vals (vs++[]) (us++[]):=r.append .nil
 have hl:(us++[]).length=ps.length:=by rw [<-r2.length]; exact F.len _ _ _ _ h
 refine wpAny_call (codeAny_mono (F.run X.A X.stack s H ⟨us,[]⟩ (us++[]) (vs++[]) Q E hr I.env0 (hb s us I.kIn hl) r2 h) fun r s' hq=>?_)
 cases r with
 | error e=>exact hx pins σ H s e s' I hq
 | ok fl=>
  cases fl with
  | ret u=>exact I.after hq
  | next=>exact bS hq
  | brk=>exact bS hq
  | cont=>exact bS hq
theorem qaX {k:Nat} {f:Addr} {p pos:Pos} (F:FnQ X.prog X.w X.K X.mg X.base CX k f fd ps (spD C.K C.cv ms mr G)) (hr:RoomQ k X.A) (hg:Gl X x) (hm:X.mg x=some (.ref f)) (hk:keepIn X.K (.ref f)=true) (hb:Binds X.K fd ps []) (hx:vY CX X C.E)
  (ha:PA X (e::es) (tAr C own as fr)) (hms:ms=as.map QE:=by rfl) (hs:∀ i∈jj as,i∈own:=by decide) (nd:(jj as).Nodup:=by decide) (hf:frA as<=1:=by decide) (hio:∀ i∈C.ox,i∈own:=by exact vZ rfl) (hdb:(x == ("__debug__":Str))=false:=by decide) (he:starEach (e::es) X.env=(false,eval e X.env)::starEach es X.env:=by exact jP rfl)
  (hpl:(backTo pos (starEach es X.env)).any (·.1)=false:=by exact uH rfl):PE X (.Call (.Name x p) (e::es) [] pos) (tE C own mr (qx as G fr)):=by
 subst hms
 refine ⟨?_⟩
 intro pins s σ H Q I h
 refine wpAny_Call_Name_kw (xp I hg hm ?_ hdb)
 refine dW (h₀:=X.base) I.ok.mod.kin hk (thn (ha pos pins s σ H _ I (Wo hio hs nd hf h)) fun us s1 ⟨vs,H1,I1,r,q⟩=>⟨I1.kIn,?_⟩) he hpl
 exact qc4 F hr hb hx I1 r q
end
def DefOk (P:Program) (w:World) (K:Frag) (mg:Str->Option Value) (base:Heap) (cv:Str->Value) (k:Nat) (x:Str) (ps:List Str) (ms:List PM) (mr:Mo) (G:List D->Out (D×List D)):Prop:=
 ∃ f fd,FnOk P w K mg base (CXk P w) k f fd ps (spD K cv ms mr G)/\mg x=some (.ref f)/\keepIn K (.ref f)=true/\Binds K fd ps []
def qgC (P:Program) (w:World) (K:Frag) (mg:Str->Option Value) (base:Heap) (cv:Str->Value) (k:Nat) (x:Str) (ps:List Str) (ms:List PM) (mr:Mo) (G:List D->Out (D×List D)):Prop:=
 ∃ f fd,FnQ P w K mg base (CXk P w) k f fd ps (spD K cv ms mr G)/\mg x=some (.ref f)/\keepIn K (.ref f)=true/\Binds K fd ps []
def qU (K:Frag) (mg:Str->Option Value) (x:Str) (st:Stmt) (ps:List Str):Prop:=∃ f fd,Fun K x x st f fd/\mg x=some (.ref f)/\Binds K fd ps []
theorem qF {P:Program} {w:World} {base:Heap} {cv:Str->Value} {k:Nat} {ms:List PM} {mr:Mo} {own':List Nat} {fb:Sl->Out (Fl×Sl)} (T:qU K mg x st ps) (S:FnScope N ps (qe st))
  (hbody:∀ (cdv:Value) (f:Addr) (A:Around) (outer:List Env) (s:Shared) (H:Hp) (E:XK),Room k (A.deeper (envOfC x (qe st) s.heap.objs.size f cdv)) ->
   PSs (cxk P w K mg base N x (qe st) f cdv A outer s H E) (kJ st) (tSt (qdP K cv E ms mr) (kb 0 ms) own' fb))
  (hl:ms.length=ps.length:=by rfl) (hsub:∀ i∈Wn 0 ms,i∈own':=by exact vZ rfl) (hmr:mr=.sh\/∀ ds ρ,(fb (qu N ds))≠.ok (.nx,ρ):=by exact .inl rfl):DefOk P w K mg base cv (k+1) x ps ms mr (jT N ms fb):=by
 obtain ⟨f,fd,F,hm,hb⟩:=T
 exact ⟨f,fd,qg8 F S hl hsub hmr (fun cdv A outer s H E hr=>hbody cdv f A outer s H E hr) fun _=>.inr rfl,hm,F.kp,hb⟩
theorem qgD {P:Program} {w:World} {base:Heap} {cv:Str->Value} {k:Nat} {ms:List PM} {mr:Mo} {own':List Nat} {fb:Sl->Out (Fl×Sl)} (T:qU K mg x st ps) (S:FnScope N ps (qe st))
  (hbody:∀ (cdv:Value) (f:Addr) (A:Around) (outer:List Env) (s:Shared) (H:Hp) (E:XK),RoomQ k (A.deeper (envOfC x (qe st) s.heap.objs.size f cdv)) ->
   PSs (cxQ (CXk P w) P w K mg base N x (qe st) f cdv A outer s H E) (kJ st) (tSt (qdP K cv E ms mr) (kb 0 ms) own' fb))
  (hl:ms.length=ps.length:=by rfl) (hsub:∀ i∈Wn 0 ms,i∈own':=by exact vZ rfl) (hmr:mr=.sh\/∀ ds ρ,(fb (qu N ds))≠.ok (.nx,ρ):=by exact .inl rfl):qgC P w K mg base cv (k+1) x ps ms mr (jT N ms fb):=by
 obtain ⟨f,fd,F,hm,hb⟩:=T
 exact ⟨f,fd,qgB F S hl hsub hmr (fun cdv A outer s H E hr=>hbody cdv f A outer s H E hr) fun _=>.inr rfl,hm,F.kp,hb⟩
variable {cv:Str->Value}
theorem DefOk.mono {j k:Nat} (h:DefOk P w K mg base cv j x ps ms mr G) (hj:j<=k):DefOk P w K mg base cv k x ps ms mr G:=by
 obtain ⟨f,fd,F,r⟩:=h
 exact ⟨f,fd,F.mono hj,r⟩
theorem DefOk.by {k:Nat} {G':List D->Out (D×List D)} (h:DefOk P w K mg base cv k x ps ms mr G) (e:∀ ds,Out.le (G' ds) (G ds)):DefOk P w K mg base cv k x ps ms mr G':=by
 obtain ⟨f,fd,F,r⟩:=h
 refine ⟨f,fd,F.imp fun vs H Q E ⟨F1,ds,sb,ar,nd,po⟩=>⟨F1,ds,sb,ar,nd,?_⟩,r⟩
 rcases e ds with z | z
 ·rw [z] at po; exact po.elim
 ·rw [<-z]; exact po
section
variable {fr:Sl->Out (List D×Sl)} {p:Pos} {k j:Nat}
theorem qo (F:DefOk X.prog X.w X.K X.mg X.base cv j x ps ms mr G) (hr:Room k X.A) (hj:j<=k) (hx:vY (CXk X.prog X.w) X C.E) (hg:Gl X x) (ha:PA X (e::es) (tAr C own as fr)) (hcv:C.cv=cv:=by rfl) (hK:C.K=X.K:=by rfl) (hms:ms=as.map QE:=by rfl) (hs:∀ i∈jj as,i∈own:=by decide) (nd:(jj as).Nodup:=by decide) (hf:frA as<=1:=by decide) (hio:∀ i∈C.ox,i∈own:=by exact vZ rfl)
  (hdb:(x == ("__debug__":Str))=false:=by decide) (he:starEach (e::es) X.env=(false,eval e X.env)::starEach es X.env:=by exact jP rfl) (hpl:(backTo pos (starEach es X.env)).any (·.1)=false:=by exact uH rfl):PE X (.Call (.Name x p) (e::es) [] pos) (tE C own mr (qx as G fr)):=by
 subst hcv
 obtain ⟨f,fd,F,hm,hk,hb⟩:=F
 rw [<-hK] at F
 exact qcX (by rw [<-hK]; exact F) (hr.mono hj) hg hm hk hb hx ha hms hs nd hf hio hdb he hpl
theorem ZA (F:qgC X.prog X.w X.K X.mg X.base cv j x ps ms mr G) (hr:RoomQ j X.A) (hx:vY (CXk X.prog X.w) X C.E) (hg:Gl X x) (ha:PA X (e::es) (tAr C own as fr)) (hcv:C.cv=cv:=by rfl) (hK:C.K=X.K:=by rfl) (hms:ms=as.map QE:=by rfl) (hs:∀ i∈jj as,i∈own:=by decide) (nd:(jj as).Nodup:=by decide) (hf:frA as<=1:=by decide) (hio:∀ i∈C.ox,i∈own:=by exact vZ rfl)
  (hdb:(x == ("__debug__":Str))=false:=by decide) (he:starEach (e::es) X.env=(false,eval e X.env)::starEach es X.env:=by exact jP rfl) (hpl:(backTo pos (starEach es X.env)).any (·.1)=false:=by exact uH rfl):PE X (.Call (.Name x p) (e::es) [] pos) (tE C own mr (qx as G fr)):=by
 subst hcv
 obtain ⟨f,fd,F,hm,hk,hb⟩:=F
 rw [<-hK] at F
 exact qaX (by rw [<-hK]; exact F) hr hg hm hk hb hx ha hms hs nd hf hio hdb he hpl
noncomputable def VX:D->Out D
 | .int i=>.ok (.int (-i))
 | _=>.bad
theorem zb:UnD X C .sh (unaryOp .USub) VX:=by
 intro pins s σ H x v Q I rx h
 obtain ⟨F,dx,sb,tx,po⟩:=h
 cases dx <;> try exact po.elim
 obtain rfl:=tx.int
 exact qeh pins s σ H _ v Q I rx ⟨_,rfl,po _ F H sb .refl (.int _)⟩
end
noncomputable def uh:Option (Option D)->Bool
 | some (some (.lst _))=>true
 | _=>false
noncomputable def Kp (i:Nat) (g:List D->D->Out (List D)) (fe:Sl->Out (D×Sl)):Sl->Out (D×Sl):=fun ρ=>if uh ρ[i]?=true then (fe ρ).bind fun p=>match p.2[i]? with
 | some (some (.lst xs))=>match g xs p.1 with
  | .ok ys=>.ok (.non,p.2.set i (some (.lst ys)))
  | _=>.bad
 | _=>.bad
 else .bad
noncomputable def Qq (xs:List D) (d:D):Out (List D):=if xs.length < sizeLine then .ok (xs++[d]) else .bad
noncomputable def Xx (xs:List D):D->Out (List D)
 | .lst ys=>if xs.length+ys.length<=sizeLine then .ok (xs++ys) else .bad
 | .tup ys=>if xs.length+ys.length<=sizeLine then .ok (xs++ys) else .bad
 | _=>.bad
section
theorem Rep.write (rp:Rep K own F H σ ρ) (hi:i∈own) (ha:σ[i]?=some (some (V.ref a))) (ow:OwnIs K F (upd H a u) a d) :
  Rep K own F (upd H a u) σ (ρ.set i (some d))/\Chg (OA own σ) F H F (upd H a u):=by
 obtain ⟨d0,hd0⟩:=rp.opn i hi
 obtain ⟨a',e1,hF,o0⟩:=rp.ow i d0 hi hd0
 rw [ha] at e1; cases e1
 have hl:i < ρ.length:=(au.mp hd0).1
 refine ⟨⟨fun b o e=>by rw [qD (qK e hF)]; exact rp.sub b o e,by simp [rp.len],fun j d' hj e=>?_,fun j d' hj e=>?_,fun j hj=>?_,rp.dis⟩,⟨fun b o e n=>?_,fun b e=>?_,Same.refl _,fun b e=>.inl e⟩⟩
 ·rw [aj (fun z=>hj (by rw [<-z]; exact hi))] at e
  exact rp.val j d' hj e
 ·by_cases q:j=i
  ·subst q
   rw [aC hl] at e
   cases e
   exact ⟨a,ha,hF,ow⟩
  ·rw [aj (aX q)] at e
   obtain ⟨b,h1,h2,h3⟩:=rp.ow j d' hj e
   have nb:b≠a:=fun z=>by subst z; exact q (rp.dis j i b hj hi h1 ha)
   exact ⟨b,h1,h2,h3.grow (Same.refl _) fun o z=>by rw [qD nb]; exact z⟩
 ·by_cases q:j=i
  ·subst q; exact ⟨d,aC hl⟩
  ·rw [aj (aX q)]; exact rp.opn j hj
 ·have nb:b≠a:=fun z=>n (by rw [z]; exact ⟨i,hi,ha⟩)
  rw [qD nb]; exact e
 ·by_cases q:b=a
  ·rw [q,qw]; simp
  ·rw [qD q]; exact e
theorem UL {o:Option (Option D)} (h:uh o=true):∃ xs,o=some (some (.lst xs)):=by
 unfold uh at h
 split at h
 ·exact ⟨_,rfl⟩
 ·cases h
theorem qaY {g:List D->D->Out (List D)} {R:V->V->Hp->VK->Prop} {σ:St} {H:Hp} {Q:VK} (ho:i∈own) (hm:m≠.any)
  (hR:∀ (a:Addr) (xs:List V) (ds ys:List D) (v:V) (d:D) (F H:Hp),Same F H->H a=some (.lst xs)->F a=none->IsL C.K F xs ds->Is C.K F v d->g ds d=.ok ys->(∀ zs,IsL C.K F zs ys->Q .non (upd H a (.lst zs)))->R (.ref a) v H Q)
  (h:tE C own .sh (Kp i g fe) σ H Q):∃ a xs,σ[i]?=some (some (V.ref a))/\H a=some (.lst xs)/\tE C own .sh fe σ H fun v H1=>R (.ref a) v H1 Q:=by
 obtain ⟨F,ρ,rp,h⟩:=h
 unfold Kp at h
 by_cases q:uh ρ[i]?=true
 ·rw [if_pos q] at h
  obtain ⟨ds,hd⟩:=UL q
  obtain ⟨a,h1,h2,xs,h3,h4⟩:=rp.ow i _ ho hd
  refine ⟨a,xs,h1,h3,F,ρ,rp,Po.bind h fun v F1 H1 d ρ1 rp1 c1 mo1 po=>?_⟩
  cases q1:ρ1[i]? with
  | none=>simp only [q1] at po; exact po.elim
  | some o=>
   cases o with
   | none=>simp only [q1] at po; exact po.elim
   | some dd=>
    simp only [q1] at po
    cases dd with
    | lst es=>
     simp only at po
     cases q2:g es d with
     | ok ys=>
      simp only [q2] at po
      obtain ⟨a',e1,e2,vs,e3,e4⟩:=rp1.ow i _ ho q1
      rw [h1] at e1; cases e1
      refine hR a vs es ys v d F1 H1 rp1.sub e3 e2 e4 mo1 q2 fun zs iz=>?_
      obtain ⟨r2,c2⟩:=rp1.write (u:=.lst zs) (d:=.lst ys) ho h1 ⟨zs,qw,iz⟩
      exact po .non F1 _ r2 c2 .non
     | exc c o=>simp only [q2] at po; exact po.elim
     | bad=>simp only [q2] at po; exact po.elim
    | _=>exact po.elim
 ·rw [if_neg q] at h; exact h.elim
theorem ui {px apos cpos:Pos} (hK:C.K=X.K) (hN:X.N[i]?=some x) (hv:Vis X.env.scope x) (ho:i∈own) (he:PE X e (tE C own m fe)) (hm:m≠.any:=by decide)
  (hd:(x == ("__debug__":Str))=false:=by decide) (hcd:(x == ("__classdict__":Str))=false:=by decide)
  (hbase:attributeBase (.Name x px) "append" X.env (eval (.Name x px) X.env)=eval (.Name x px) X.env:=by rfl)
  (hfew:((backTo cpos (starEach [e] X.env)).all (fun x=>!x.1)&&(backToKw cpos (keywordEach [] X.env)).all (fun x=>x.1.isSome)
   && decide ([e].length+([]:List Keyword).length+(if ([]:List Keyword).isEmpty then 0 else 1) < 30))=true:=by exact wo rfl)
  (hline:(apos.endLine == cpos.line)=true:=by rfl) (hs:starEach [e] X.env=[(false,eval e X.env)]:=by exact qY rfl) :
  PE X (.Call (.Attribute (.Name x px) "append" apos) [e] [] cpos) (tE C own .sh (Kp i Qq fe)):=by
 refine jJ (YI bY PySem.F.slot_list_append PySem.F.type_list_append KA (yb hN hv hd hcd) (qT (yk he hm) jM hs) hbase hfew hline hs rfl) fun σ H Q h=>?_
 have hR:∀ (a:Addr) (xs:List V) (ds ys:List D) (v:V) (d:D) (F H:Hp),Same F H->H a=some (.lst xs)->F a=none->IsL C.K F xs ds->Is C.K F v d->Qq ds d=.ok ys->(∀ zs,IsL C.K F zs ys->Q .non (upd H a (.lst zs)))->Wg (.ref a) [v] H Q:=fun a xs ds ys v d F H sb ea ef ix iv eg k=>by
  unfold Qq at eg
  split at eg
  ·cases eg
   exact ⟨a,xs,v,rfl,rfl,ea,by rw [ix.length]; assumption,k _ (ix.append (.cons iv .nil))⟩
  ·cases eg
 obtain ⟨a,xs,h1,h2,k⟩:=qaY (R:=fun x v H Q=>Wg x [v] H Q) ho hm hR h
 exact ⟨.ref a,h1,.inl ⟨rfl,xs,.inl (.inl h2)⟩,k⟩
theorem gj {px apos cpos:Pos} (hN:X.N[i]?=some x) (hv:Vis X.env.scope x) (ho:i∈own) (he:PE X e (tE C own .fr fe))
  (hd:(x == ("__debug__":Str))=false:=by decide) (hcd:(x == ("__classdict__":Str))=false:=by decide)
  (hbase:attributeBase (.Name x px) "extend" X.env (eval (.Name x px) X.env)=eval (.Name x px) X.env:=by rfl)
  (hfew:((backTo cpos (starEach [e] X.env)).all (fun x=>!x.1)&&(backToKw cpos (keywordEach [] X.env)).all (fun x=>x.1.isSome)
   && decide ([e].length+([]:List Keyword).length+(if ([]:List Keyword).isEmpty then 0 else 1) < 30))=true:=by exact wo rfl)
  (hline:(apos.endLine == cpos.line)=true:=by rfl) (hs:starEach [e] X.env=[(false,eval e X.env)]:=by exact qY rfl) :
  PE X (.Call (.Attribute (.Name x px) "extend" apos) [e] [] cpos) (tE C own .sh (Kp i Xx fe)):=by
 refine jJ (YI bY PySem.F.slot_list_extend PySem.F.type_list_extend XR (yb hN hv hd hcd) (qT he jM hs) hbase hfew hline hs rfl) fun σ H Q ⟨F,ρ,rp,h⟩=>?_
 unfold Kp at h
 by_cases q:uh ρ[i]?=true
 ·rw [if_pos q] at h
  obtain ⟨ds,hd⟩:=UL q
  obtain ⟨a,h1,h2,xs,h3,h4⟩:=rp.ow i _ ho hd
  refine ⟨.ref a,h1,.inl ⟨rfl,xs,.inl (.inl h3)⟩,F,ρ,rp,Po.bind h fun v F1 H1 d ρ1 rp1 c1 mo1 po=>?_⟩
  obtain ⟨b,rfl,hb0,hbF,ob⟩:=mo1
  cases q1:ρ1[i]? with
  | none=>simp only [q1] at po; exact po.elim
  | some o=>
   cases o with
   | none=>simp only [q1] at po; exact po.elim
   | some dd=>
    simp only [q1] at po
    cases dd with
    | lst es=>
     simp only at po
     obtain ⟨a',e1,e2,vs,e3,e4⟩:=rp1.ow i _ ho q1
     rw [h1] at e1; cases e1
     cases d with
     | lst ys=>
      obtain ⟨zs,hz,iz⟩:=ob
      have po:Po C own .sh σ F1 H1 (match (if es.length+ys.length<=sizeLine then .ok (es++ys) else .bad:Out (List D)) with | .ok ys=>.ok (.non,ρ1.set i (some (.lst ys))) | _=>.bad) Q:=po
      by_cases qz:es.length+ys.length<=sizeLine
      ·rw [if_pos qz] at po
       refine ⟨a,b,vs,zs,rfl,rfl,e3,hz,by rw [e4.length,iz.length]; exact qz,?_⟩
       obtain ⟨r2,c2⟩:=rp1.write (u:=.lst (vs++zs)) (d:=.lst (es++ys)) ho h1 ⟨_,qw,e4.append iz⟩
       exact po .non F1 _ r2 c2 .non
      ·rw [if_neg qz] at po; exact po.elim
     | dct ys=>
      exact po.elim
     | ins _ _=>exact po.elim
     | at_ _ _=>exact po.elim
     | _=>exact ob.elim
    | _=>exact po.elim
 ·rw [if_neg q] at h; exact h.elim
end
noncomputable def scB (names:List (Str×NameKind)) (scope:Scope):Bool:=decide (scope.kind=.function)&&scope.names.all fun y=>decide (y.2≠.cell)&&(!decide (y.2=.local)||decide (scope.names.lookup y.1=some .local)) &&
 (!decide (y.2=.free)||((decide (names.lookup y.1=some .cell)||decide (names.lookup y.1=some .free))&&decide (scope.names.lookup y.1=some .free)))
variable {names:List (Str×NameKind)}
theorem vp (hX:X.env.scope.names=names) (b:scB names scope=true):ScOk X scope:=by
 subst hX
 unfold scB at b
 rw [aN,bh] at b
 obtain ⟨b0,b1⟩:=b
 refine ⟨of_decide_eq_true b0,fun y hy=>?_,fun y hy e=>?_,fun y hy e=>?_,fun y hy e=>?_⟩
 all_goals
  have q:=b1 y hy
  simp only [aN,Bool.or_eq_true,Bool.not_eq_true',decide_eq_true_eq,decide_eq_false_iff_not] at q
 ·exact q.1.1
 ·exact q.1.2.resolve_left fun z=>z e
 ·exact (q.2.resolve_left fun z=>z e).1
 ·exact (q.2.resolve_left fun z=>z e).2
noncomputable def qg9 (names:List (Str×NameKind)) (N:List Str) (scope:Scope) (Nc:List Str) (nt:Nat) (cap:List Nat):Bool:=decide cap.Nodup&&decide (Nc.length=nt+cap.length)&&(aQ cap.length).all fun j=>match cap[j]? with
 | some k=>match Nc[nt+j]? with
  | some x=>decide (N[k]?=some x)&&(((decide (names.lookup x=some .local)||decide (names.lookup x=some .cell)||decide (names.lookup x=some .free))&&decide ((x,bt)∈scope.names))||scope.names.all fun y=>decide (y.1≠x))
  | none=>false
 | none=>false
theorem jN {Nc:List Str} (hX:X.env.scope.names=names) (hN:X.N=N) (b:qg9 names N scope Nc nt cap=true):CapOk X scope Nc nt cap:=by
 subst hX hN
 unfold qg9 at b
 rw [aN,aN,bh] at b
 obtain ⟨⟨b0,b1⟩,b2⟩:=b
 refine ⟨of_decide_eq_true b0,of_decide_eq_true b1,fun j k hj=>?_⟩
 have q:=b2 j (cN.mpr (au.mp hj).1)
 rw [hj] at q
 cases e:Nc[nt+j]? with
 | none=>simp only [e] at q; cases q
 | some x=>
  simp only [e,aN,Bool.or_eq_true,decide_eq_true_eq] at q
  refine ⟨x,rfl,q.1,?_⟩
  rcases q.2 with ⟨z,q2⟩ | z
  ·refine .inl ⟨?_,q2⟩
   rcases z with (z | z) | z
   ·exact .inl z
   ·exact .inr (.inl z)
   ·exact .inr (.inr z)
  ·refine .inr fun k' hk'=>?_
   rw [bh] at z
   exact of_decide_eq_true (z (x,k') hk') rfl
theorem wy:vY (CXk P w) X (fun _ _ _=>False):=fun _ _ _ _ _ _ _ h=>by
 obtain ⟨_,_,_,_,_,_,_,_,_,_,_,_,_,_,hE⟩:=h
 exact hE.elim
noncomputable def qgE (f:Sl->Out (D×Sl)):Sl->Out (D×Sl):=fun ρ=>(jl f ρ).bind fun p=>.ok (.bl (!p.1),p.2)
section
variable {i:Int}
theorem yJ (h:∃ t,X.mg x=some (.int i t)) (hg:Gl X x) (hd:(x == ("__debug__":Str))=false:=by decide):PE X (.Name x pos) (tE C own .sh (dC (.int i))):=by
 obtain ⟨t,h⟩:=h
 exact Za (v:=.int i) hg h ⟨t,rfl⟩ (fun _=>.int i) hd
end
section
variable {a b:Expr} {fb:Sl->Out (D×Sl)}
noncomputable def gk:D->Out D
 | .lst xs=>.ok (.tup xs)
 | .tup xs=>.ok (.tup xs)
 | _=>.bad
noncomputable def KZ:D->Out D
 | .lst xs=>.ok (.lst xs)
 | .tup xs=>.ok (.lst xs)
 | _=>.bad
theorem Jo (hK:C.K=X.K):Jj X C .sh (.type "tuple") gk:=by
 intro pins s σ H xs us Q I r h
 obtain ⟨x,F,dx,rfl,sb,tx,po⟩:=h
 cases dx with
 | lst ds=>
  obtain ⟨p,vs,rfl,hq,t⟩:=tx.lst sb
  refine yy pins s σ H _ us Q I r ⟨p,vs,rfl,.inl ⟨by rw [<-hK]; exact hq,fun l hl=>?_⟩⟩
  obtain ⟨s2,c2⟩:=wu (u:=.tup vs) sb hl
  exact po _ _ _ s2 c2 (.tup (.inl (.inl qw)) (t.mono c2.grow))
 | tup ds=>
  rcases tx with tx | ⟨_,_,tx⟩
  ·have tx0:=tx
   cases tx with
   | tup hq t=>exact yy pins s σ H _ us Q I r ⟨_,_,rfl,.inr ⟨by rw [<-hK]; exact qV sb hq,po _ F H sb .refl tx0⟩⟩
  ·exact tx.elim
 | _=>exact po.elim
theorem Wt (hK:C.K=X.K):Jj X C .fr (.type "list") KZ:=by
 intro pins s σ H xs us Q I r h
 obtain ⟨x,F,dx,rfl,sb,tx,po⟩:=h
 cases dx with
 | lst ds=>
  obtain ⟨p,vs,rfl,hq,t⟩:=tx.lst sb
  refine xW pins s σ H _ us Q I r ⟨p,vs,rfl,.inl (by rw [<-hK]; exact hq),fun l hl=>?_⟩
  obtain ⟨s2,c2,hF⟩:=vf (u:=.lst vs) sb hl
  exact po _ _ _ s2 c2 ⟨l,rfl,hl,hF,vs,qw,t⟩
 | tup ds=>
  obtain ⟨p,vs,rfl,hq,t⟩:=tx.tup sb
  refine xW pins s σ H _ us Q I r ⟨p,vs,rfl,.inr (by rw [<-hK]; exact hq),fun l hl=>?_⟩
  obtain ⟨s2,c2,hF⟩:=vf (u:=.lst vs) sb hl
  exact po _ _ _ s2 c2 ⟨l,rfl,hl,hF,vs,qw,t⟩
 | _=>exact po.elim
def ZB (X:Cx) (C:Ct) (m:Mo) (f:Value) (g:D->D->Out D):Prop:=ub X f (fun xs H Q=>∃ x y F dx dy,xs=[x,y]/\Same F H/\TopIs C.K F H x dx/\TopIs C.K F H y dy/\PoV C m F H (g dx dy) Q)
theorem qaZ {Q:VK} {g:D->D->Out D} (hma:ma≠.any) (h:tE C own m (d2 g fa fb) σ H Q):YG (tE C own ma fa) (YG (tE C own mb fb) qfO) σ H fun xs H1=>∃ x y F dx dy,xs=[x,y]/\Same F H1/\TopIs C.K F H1 x dx/\TopIs C.K F H1 y dy/\PoV C m F H1 (g dx dy) Q:=by
 obtain ⟨F,ρ,rp,h⟩:=KG (mb:=mb) hma h
 refine ⟨F,ρ,rp,?_⟩
 cases q:fa ρ with
 | ok p=>
  rw [q] at h
  obtain ⟨d,ρ1⟩:=p
  intro v F1 H1 rp1 c1 mo1
  obtain ⟨F2,ρ2,rp2,h2⟩:=h v F1 H1 rp1 c1 mo1
  refine ⟨F2,ρ2,rp2,?_⟩
  cases q2:fb ρ2 with
  | ok p=>
   rw [q2] at h2
   obtain ⟨d',ρ3⟩:=p
   intro w F3 H3 rp3 c3 mo3
   obtain ⟨F4,dx,dy,z⟩:=h2 w F3 H3 rp3 c3 mo3
   exact ⟨v,w,F4,dx,dy,rfl,z⟩
  | exc c=>rw [q2] at h2; exact h2
  | bad=>rw [q2] at h2; exact h2.elim
 | exc c=>rw [q] at h; exact h
 | bad=>rw [q] at h; exact h.elim
theorem Va {id:String} {p:Pos} {g:D->D->Out D} (hc:ZB X C m (.builtin id) g) (hg:Gl X x) (hm:X.mg x=none) (hv:bootBuiltins x=some (.builtin id)) (ha:PE X a (tE C own ma fa)) (hb:PE X b (tE C own mb fb)) (hma:ma≠.any:=by decide) (hn:x ≠ "__name__":=by decide) (hdb:(x == ("__debug__":Str))=false:=by decide)
  (h1:starEach [a,b] X.env=(false,eval a X.env)::starEach [b] X.env:=by rfl) (h2:starEach [b] X.env=[(false,eval b X.env)]:=by exact qY rfl):PE X (.Call (.Name x p) [a,b] [] pos) (tE C own m (d2 g fa fb)):=
 jJ (wn hc hg hm hv (qT ha (qT hb jM h2) h1) hn hdb (by rw [h1]) (by rw [h2]; rfl)) fun _ _ _ h=>qaZ hma h
noncomputable def qfU:D->D->Out D:=wZ fun i j=>.ok (.int (if j > i then j else i))
noncomputable def qfV:D->D->Out D:=wZ fun i j=>.ok (.int (if j < i then j else i))
theorem qeQ (hc:X.calm=true):ZB X C .sh (.builtin "max") qfU:=by
 intro pins s σ H xs us Q I r h
 obtain ⟨x,y,F,dx,dy,rfl,sb,tx,ty,po⟩:=h
 cases dx <;> try exact po.elim
 cases dy <;> try exact po.elim
 obtain rfl:=tx.int
 obtain rfl:=ty.int
 exact XJ hc pins s σ H _ us Q I r ⟨_,_,rfl,po _ F H sb .refl (.int _)⟩
theorem qeR (hc:X.calm=true):ZB X C .sh (.builtin "min") qfV:=by
 intro pins s σ H xs us Q I r h
 obtain ⟨x,y,F,dx,dy,rfl,sb,tx,ty,po⟩:=h
 cases dx <;> try exact po.elim
 cases dy <;> try exact po.elim
 obtain rfl:=tx.int
 obtain rfl:=ty.int
 exact XM hc pins s σ H _ us Q I r ⟨_,_,rfl,po _ F H sb .refl (.int _)⟩
noncomputable def kw (a T:String):Option Bool:=if (eU a == eU T)=true then some true else if PySem.W.kitMeta T=true then (fastBuiltinMro a).map (·.contains (.type T)) else none
theorem qa0 (K:Frag) (a T:String):bM K (.type a) (.type T)=kw a T:=rfl
noncomputable def tyN:D->Option String
 | .non=>some "NoneType"
 | .bl _=>some "bool"
 | .int _=>some "int"
 | .str _=>some "str"
 | .tup _=>some "tuple"
 | .lst _=>some "list"
 | .dct _=>some "dict"
 | _=>none
noncomputable def zH (T:String) (d:D):Out D:=match tyN d with
 | some a=>match kw a T with
  | some b=>.ok (.bl b)
  | none=>.bad
 | none=>.bad
theorem qa1 (hK:C.K=X.K):ub X (.builtin "isinstance") (fun xs H Q=>∃ x F d,xs=[x,.ty T]/\Same F H/\TopIs C.K F H x d/\PoV C .sh F H (zH T d) Q):=by
 intro pins s σ H xs us Q I r h
 obtain ⟨x,F,d,rfl,sb,tx,po⟩:=h
 obtain ⟨u,c,rfl,ru,rc⟩:=qaD r
 cases rc
 cases q:tyN d with
 | none=>unfold zH at po; rw [q] at po; exact po.elim
 | some a=>
  cases q2:kw a T with
  | none=>unfold zH at po; rw [q] at po; simp only [q2] at po; exact po.elim
  | some b=>
   have po:PoV C .sh F H (.ok (.bl b)) Q:=by unfold zH at po; rw [q] at po; simp only [q2] at po; exact po
   have fin:∀ tk,EP X pins σ Q (.bool b) { s with toks:=tk }:=fun tk=>⟨.bl b,H,I.tok tk,rfl,po _ F H sb .refl (.bl b)⟩
   have e:bM X.K (.type a) (.type T)=some b:=(qa0 X.K a T).trans q2
   cases d with
   | non=>obtain rfl:=tx.non; cases ru; cases q; exact cx PySem.W.kitx_none I.kIn c9 e (fun z=>nomatch z) fin
   | bl y=>obtain rfl:=tx.bl; cases ru; cases q; exact cx PySem.W.kitx_bool I.kIn c9 e (fun z=>nomatch z) fin
   | int y=>obtain rfl:=tx.int; obtain ⟨t,rfl⟩:=ru; cases q; exact cx PySem.W.kitx_int I.kIn c9 e (fun z=>nomatch z) fin
   | str y=>obtain ⟨rfl,_⟩:=tx.str; obtain ⟨t,rfl⟩:=ru; cases q; exact cx PySem.W.kitx_str I.kIn c9 e (fun z=>nomatch z) fin
   | tup y=>
    obtain ⟨p,vs,rfl,hq,t⟩:=tx.tup sb
    cases ru; cases q
    obtain ⟨its,_,⟨o,h1,h2,_⟩,_⟩:=I.tuple (show SqT X.K H p vs by rw [<-hK]; exact hq)
    exact cx PySem.W.kitx_tuple I.kIn ⟨o,h1,h2⟩ e (fun z=>nomatch z) fin
   | lst y=>
    obtain ⟨p,vs,rfl,hq,t⟩:=tx.lst sb
    cases ru; cases q
    obtain ⟨its,_,⟨o,n,h1,h2,_⟩,_⟩:=I.list (show SqL X.K H p vs by rw [<-hK]; exact hq)
    exact cx PySem.W.kitx_list I.kIn ⟨o,h1,h2⟩ e (fun z=>nomatch z) fin
   | dct y=>
    obtain ⟨p,vs,rfl,hq,t⟩:=tx.dct sb
    cases ru; cases q
    obtain ⟨_,_,ws,_,o,es,ep,h1,h2,_⟩:=(show ObjOk X.prog X.w H s.heap p (.dK vs) from I.hok p _ hq)
    exact cx PySem.W.kitx_dict I.kIn ⟨o,h1,h2.1⟩ e (fun z=>nomatch z) fin
   | _=>cases q
theorem yK {tn:Str} {p tp:Pos} (hK:C.K=X.K) (hg:Gl X "isinstance") (hm:X.mg "isinstance"=none) (hv:bootBuiltins "isinstance"=some (.builtin "isinstance")) (ht:Gl X tn) (htm:X.mg tn=none) (htv:bootBuiltins tn=some (.type T)) (ha:PE X a (tE C own ma fa)) (hn:tn ≠ "__name__":=by decide) (hdb:(tn == ("__debug__":Str))=false:=by decide)
  (h1:starEach [a,.Name tn tp] X.env=(false,eval a X.env)::starEach [.Name tn tp] X.env:=by rfl) (h2:starEach [.Name tn tp] X.env=[(false,eval (.Name tn tp) X.env)]:=by rfl):PE X (.Call (.Name "isinstance" p) [a,.Name tn tp] [] pos) (tE C own .sh (d1 (zH T) fa)):=by
 refine jJ (wn (qa1 (T:=T) hK) hg hm hv (qT ha (qT (XC (v:=.ty T) ht htm htv rfl hn hdb) jM h2) h1) (by decide) (by decide) (by rw [h1]) (by rw [h2]; rfl)) fun σ H Q h=>?_
 obtain ⟨F,ρ,rp,h⟩:=Wj (ma:=ma) h
 refine ⟨F,ρ,rp,?_⟩
 cases q:fa ρ with
 | ok p=>
  rw [q] at h
  obtain ⟨d,ρ1⟩:=p
  intro v F1 H1 rp1 c1 mo1
  obtain ⟨F2,dx,z⟩:=h v F1 H1 rp1 c1 mo1
  exact ⟨v,F2,dx,rfl,z⟩
 | exc c=>rw [q] at h; exact h
 | bad=>rw [q] at h; exact h.elim
noncomputable def kr:List D->Option (List Bool)
 | []=>some []
 | .bl b::ds=>(kr ds).map (b::·)
 | _::_=>none
noncomputable def qap:D->Out D
 | .lst ds=>match kr ds with
  | some bs=>.ok (.bl (bs.all id))
  | none=>.bad
 | _=>.bad
theorem zI:∀ {vs:List V} {us:List Value} {ds:List D} {bs:List Bool},IsL K F vs ds->Vals vs us->kr ds=some bs->us=bs.map aP
 | _,_,_,_,.nil,.nil,e=>by cases e; rfl
 | _,_,_,_,.cons (d:=d) h t,.cons r rs,e=>by
  cases d with
  | bl b=>
   unfold kr at e
   obtain ⟨bs',e1,e2⟩:=aR.mp e
   subst e2
   cases h
   cases r
   rw [zI t rs e1]; rfl
  | _=>cases e
theorem Vb (hK:C.K=X.K) (hc:X.calm=true):Jj X C .sh (.builtin "all") qap:=by
 intro pins s σ H xs us Q I r h
 obtain ⟨x,F,dx,rfl,sb,tx,po⟩:=h
 cases dx <;> try exact po.elim
 rename_i ds
 obtain ⟨p,vs,rfl,hq,t⟩:=tx.lst sb
 obtain ⟨u,rfl,ru⟩:=yi r
 cases ru
 unfold qap at po
 cases q:kr ds with
 | none=>simp only [q] at po; exact po.elim
 | some bs=>
  simp only [q] at po
  obtain ⟨its,rv,pl,hz⟩:=I.list (show SqL X.K H p vs by rw [<-hK]; exact hq)
  have eb:=zI t rv q
  subst eb
  have hp:p < s.heap.objs.size:=let ⟨o,h1,_⟩:=pl.isList; am h1
  refine call_all_walk (wpAny_pyIter_list pl.isList ?_)
  have W:Walks X.prog X.w X.A.in1 s.heap.objs.size [s.heap.objs.size,p] [s.heap.objs.size] (bs.map aP).toArray.size (fun i v=>(bs.map aP).toArray[i]?=some v) (fun i h=>h.IsListIter s.heap.objs.size p i/\h.IsList p (bs.map aP).toArray):=Walks.list (A:=X.A.in1) (show X.A.in1.handled=none from I.ok.hd hc) s.heap.objs.size p (aA hp) _
  have st:(s.heap.push { cls:=.type "list_iterator",data:=.fields #[.ref p,.int 0 0] }).IsListIter s.heap.objs.size p 0/\(s.heap.push { cls:=.type "list_iterator",data:=.fields #[.ref p,.int 0 0] }).IsList p (bs.map aP).toArray:=⟨⟨_,ah _ rfl,rfl,rfl⟩,let ⟨o,h1,h2⟩:=pl.isList; ⟨o,aa _ h1,h2⟩⟩
  refine ⟨_,_,_,_,_,_,fun i=>(bs[i]?).getD false,rfl,W,st,fun i v s' Q' E' hP hQ'=>?_,fun h' tk kp=>?_⟩
  ·have hP:(bs.map aP).toArray[i]?=some v:=hP
   rw [dH,aH] at hP
   cases qi:bs[i]? with
   | none=>rw [qi] at hP; cases hP
   | some b=>
    have hQ2:Q' ((bs[i]?).getD false) s':=hQ'
    rw [qi] at hP hQ2
    cases hP
    exact wpAny_truthy_bool hQ2
  ·have e:(aQ (bs.map aP).toArray.size).all (fun i=>(bs[i]?).getD false)=bs.all id:=by
    rw [ak,aB,Bool.eq_iff_iff,bh,bh]
    constructor
    ·intro h b hb
     obtain ⟨i,hi,e⟩:=dM.mp hb
     have:=h i (cN.mpr hi)
     rw [aG hi,e] at this
     exact this
    ·intro h i hi
     have hi:=cN.mp hi
     rw [aG hi]
     exact h _ (ci hi)
   rw [e]
   refine ⟨.bl (bs.all id),H,?_,rfl,po _ F H sb .refl (.bl _)⟩
   have k2:∀ b o,s.heap.get? b=some o->h'.get? b=some o:=fun b o eb=>kp b o (by simp; exact aA (am eb)) (aa _ eb)
   exact I.kept (t':=tk) k2
end
noncomputable def wb (idx:List Nat) (xs:List α):List α:=idx.filterMap fun k=>xs[k]?
theorem IsL.pick (h:IsL K F vs ds):∀ (idx:List Nat),IsL K F (wb idx vs) (wb idx ds)
 | []=>.nil
 | k::idx=>by
  unfold wb
  rw [bc,bc]
  cases e:vs[k]? with
  | none=>
   have e2:ds[k]?=none:=bQ.mpr (by rw [<-h.length]; exact bQ.mp e)
   rw [e2]
   exact IsL.pick h idx
  | some v=>
   obtain ⟨d,e2,i⟩:=h.get e
   rw [e2]
   exact .cons i (IsL.pick h idx)
theorem gl {us:List Value} (h:Vals vs us):∀ (idx:List Nat),Vals (wb idx vs) (wb idx us)
 | []=>.nil
 | k::idx=>by
  unfold wb
  rw [bc,bc]
  cases e:vs[k]? with
  | none=>rw [h.none_of e]; exact gl h idx
  | some v=>
   obtain ⟨u,e2,r⟩:=h.get e
   rw [e2]
   exact .cons r (gl h idx)
theorem qa2 (xs:List α):wb (aQ xs.length) xs=xs:=by
 unfold wb
 have:=PySem.W.krv_all xs.toArray
 simpa using this
noncomputable def Vc (n:Nat) (lo hi:Option Int) (st:Int):List Nat:=(aQ (db (bo lo hi st n).1 (bo lo hi st n).2 st)).map fun (k:Nat)=>((bo lo hi st n).1+(k:Int) * st).toNat
noncomputable def QM (x:Str) (lo hi:Option Int) (st:Int):Str:=if (st == 1&&(c7 lo hi st x.length).length == x.length)=true then x else ⟨((c7 lo hi st x.length).filterMap (x.cps[·]?)).toArray⟩
noncomputable def slD (lo hi st:Option Int):D->Out D
 | .tup xs=>if st.getD 1≠0/\(wb (Vc xs.length lo hi (st.getD 1)) xs).length<=sizeLine then .ok (.tup (wb (Vc xs.length lo hi (st.getD 1)) xs)) else .bad
 | .str x=>if st.getD 1≠0/\(QM x lo hi (st.getD 1)).length<=sizeLine then .ok (.str (QM x lo hi (st.getD 1))) else .bad
 | _=>.bad
def qha (X:Cx) (r:V->Option Int->Option Int->Option Int->Hp->VK->Prop):Prop:=
 ∀ (pins:List (Addr×Obj)) (s:Shared) (σ:St) (H:Hp) (x:V) (v vl vu vk:Value) (lo hi st:Option Int) (sl:Addr) (Q:VK),Inv X pins σ H s->RelV x v->s.heap.IsSliceOf sl vl vu vk->IsPart vl lo->IsPart vu hi->IsPart vk st->r x lo hi st H Q ->
  ∃ T id,typeLookup (.type T) "__getitem__"=pure (some (.builtin id))/\s.TypeIs v T/\wpAny (model X.prog X.w) X.A (getItem v (.ref sl)) (EP X pins σ Q) X.xe s
variable {sl:Addr}
section
variable {prog:Program}
theorem Qr {vl vu vk:Value} {lo hi st:Option Int} {n:Nat} {Q:Int×Int×Nat->Shared->Prop} (hs:s.heap.IsSliceOf sl vl vu vk) (pl:IsPart vl lo) (pu:IsPart vu hi) (pk:IsPart vk st) (h0:st.getD 1≠0)
  (h:Q ((bo lo hi (st.getD 1) n).1,st.getD 1,db (bo lo hi (st.getD 1) n).1 (bo lo hi (st.getD 1) n).2 (st.getD 1)) s):wpAny (model prog w) A (Builtin.Slice.sliceApplied (.ref sl) (pure (n:Int))) Q E s:=by
 obtain ⟨os,hos,hcs,hds⟩:=id hs
 unfold Builtin.Slice.sliceApplied Builtin.Slice.sliceFields
 refine wpAny_bind (wpAny_bind (wpAny_field hos hds (x:=vl) rfl (wpAny_bind (wpAny_field hos hds (x:=vu) rfl (wpAny_bind (wpAny_field hos hds (x:=vk) rfl (wpAny_pure ?_)))))))
 refine wpAny_bind (HT.slicePart_ pk ?_)
 show wpAny _ _ (if (st.getD 1 == 0)=true then _ else _) _ _ s
 rw [if_neg (by simpa using h0)]
 refine wpAny_bind (HT.slicePart_ pl (wpAny_bind (HT.slicePart_ pu (wpAny_bind (wpAny_pure ?_)))))
 exact wpAny_pure h
theorem gm {t:Addr} {items:Array Value} {vl vu vk:Value} {lo hi st:Option Int} {Q:Value->Shared->Prop} (ht:IsTup s.heap t items) (hs:s.heap.IsSliceOf sl vl vu vk) (pl:IsPart vl lo) (pu:IsPart vu hi) (pk:IsPart vk st) (h0:st.getD 1≠0)
  (hw:Vc items.size lo hi (st.getD 1)=aQ items.size->Q (.ref t) s)
  (h:Q (.ref s.heap.objs.size) { s with heap:=s.heap.push { cls:=.type "tuple",data:=.seq (wb (Vc items.size lo hi (st.getD 1)) items.toList).toArray } })
  (hsz:(wb (Vc items.size lo hi (st.getD 1)) items.toList).length<=sizeLine):wpAny (model prog w) A (getItem (.ref t) (.ref sl)) Q E s:=by
 obtain ⟨os,hos,hcs,hds⟩:=id hs
 have hTs:s.TypeIs (.ref sl) "slice":=⟨os,hos,hcs⟩
 unfold getItem
 try with_reducible refine wpAny_holding ?_
 first | refine wpAny_bind (wpAny_pure ?_) | skip
 refine wpAny_bind (wpAny_sequenceKey ht.typeIs (by decide) ?_)
 refine wpAny_bind (wpAny_callSpecial?_slot (name:=aJ "__getitem__") ht.typeIs cJ
  (wpAny_call_entry cJ ht.typeIs entry_tuple_getitem ?_ (args_tuple_getitem _ _)))
 show wpAny _ _ (Builtin.Tuple.tupleItemsOf (.ref t) >>= _) _ _ s
 refine wpAny_bind (tupleItemsOf_ ht ?_)
 refine wpAny_bind (wpAny_typeOf hTs ?_)
 rw [if_pos (by decide)]
 refine wpAny_bind (Qr hs pl pu pk h0 ?_)
 generalize hA:bo lo hi (st.getD 1) items.size=A0
 generalize hN:db A0.1 A0.2 (st.getD 1)=N0
 have ep:wb (Vc items.size lo hi (st.getD 1)) items.toList=(aQ N0).filterMap fun (k:Nat)=>items[(A0.1+(k:Int) * st.getD 1).toNat]?:=by
  unfold wb Vc
  rw [hA,hN,List.filterMap_map]
  congr 1
  funext k
  simp
 rw [ep] at h hsz
 by_cases hc:(A0.1 == 0&&st.getD 1 == 1&&N0 == items.size)=true
 ·have hc':=hc
  rw [aN,aN] at hc'
  have q1:A0.1=0:=eq_of_beq hc'.1.1
  have q2:st.getD 1=1:=eq_of_beq hc'.1.2
  have q3:N0=items.size:=eq_of_beq hc'.2
  have whole:Vc items.size lo hi (st.getD 1)=aQ items.size:=by
   unfold Vc
   rw [hA,hN,q1,q2,q3]
   have e:(fun (k:Nat)=>((0:Int)+(k:Int) * 1).toNat)=id:=by
    funext k
    show ((0:Int)+(k:Int) * 1).toNat=k
    omega
   rw [e,List.map_id]
  have hQ:=hw whole
  show wpAny _ _ (if (A0.1 == 0&&st.getD 1 == 1&&N0 == items.size)=true then _ else _) _ _ s
  rw [if_pos hc]
  unfold Builtin.Tuple.tupleIsExact
  refine wpAny_bind (wpAny_bind (wpAny_typeOf ht.typeIs (wpAny_pure ?_)))
  rw [if_pos (by decide)]
  exact wpAny_bind (wpAny_rule (wpAny_pure ⟨_,rfl,wpAny_pure hQ⟩))
 ·show wpAny _ _ (if (A0.1 == 0&&st.getD 1 == 1&&N0 == items.size)=true then _ else _) _ _ s
  rw [if_neg hc]
  have htake:sizeOk (.seq ((aQ N0).filterMap fun (k:Nat)=>items[(A0.1+(k:Int) * st.getD 1).toNat]?).toArray):=by
   show (((aQ N0).filterMap fun (k:Nat)=>items[(A0.1+(k:Int) * st.getD 1).toNat]?).toArray).size<=sizeLine
   rw [ak]; exact hsz
  first
   | exact wpAny_bind (m:=cH _) (wpAny_newObj_type (wpAny_pure ⟨_,rfl,wpAny_pure h⟩) htake)
   | exact wpAny_bind (m:=cH _) (wpAny_newObj_type (wpAny_bind (wpAny_pure (wpAny_pure ⟨_,rfl,wpAny_pure h⟩))) htake)
   | exact wpAny_bind (wpAny_bind (m:=cH _) (wpAny_newObj_type (wpAny_pure (wpAny_pure ⟨_,rfl,wpAny_pure h⟩)) htake))
   | exact wpAny_bind (wpAny_bind (m:=cH _) (wpAny_newObj_type (wpAny_pure ⟨_,rfl,wpAny_pure h⟩) htake))
end
def PoO (C:Ct) (own:List Nat) (σ:St) (F H:Hp) (r:Out (Option Int×Sl)) (Q:Option Int->Hp->Prop):Prop:=match r with
 | .ok (b,ρ')=>∀ F' H',Rep C.K own F' H' σ ρ'->Chg (OA own σ) F H F' H'->Q b H'
 | .exc c ρ'=>∀ F' H',Same F' H'->Xv C.K C.ox F' H' σ ρ'->Chg (OA own σ) F H F' H'->C.E (C.cv c) none H'
 | .bad=>False
def tO (C:Ct) (own:List Nat) (f:Sl->Out (Option Int×Sl)):TO:=fun σ H Q=>∃ F ρ,Rep C.K own F H σ ρ/\PoO C own σ F H (f ρ) Q
noncomputable def Qs:Option (Sl->Out (D×Sl))->Sl->Out (Option Int×Sl)
 | none,ρ=>.ok (none,ρ)
 | some f,ρ=>(f ρ).bind fun p=>match p.1 with
  | .int i=>.ok (some i,p.2)
  | _=>.bad
theorem Po.bindO {o:Out (Option Int×Sl)} {k:Option Int×Sl->Out (D×Sl)} {Q:VK} {R:Option Int->Hp->Prop} (hp:Po C own m σ F H (o.bind k) Q)
  (h:∀ F1 H1 b ρ1,Rep C.K own F1 H1 σ ρ1->Chg (OA own σ) F H F1 H1->Po C own m σ F1 H1 (k (b,ρ1)) Q->R b H1):PoO C own σ F H o R:=by
 cases o with
 | ok p=>
  obtain ⟨d,ρ1⟩:=p
  exact fun F1 H1 rp c=>h F1 H1 d ρ1 rp c (Po.shift (show Po C own m σ F H (k (d,ρ1)) Q from hp) c)
 | exc x=>exact hp
 | bad=>exact hp.elim
noncomputable def zc (fa:Sl->Out (D×Sl)) (l u k:Option (Sl->Out (D×Sl))):Sl->Out (D×Sl):=fun ρ=>(fa ρ).bind fun p=>(Qs l p.2).bind fun a=>(Qs u a.2).bind fun b=>(Qs k b.2).bind fun c=>(slD a.1 b.1 c.1 p.1).plain.bind fun d=>.ok (d,c.2)
section
variable {a:Expr} {p2:Pos}
theorem kx:PO X none (tO C own (Qs none)):=by
 intro pins s σ H Q I ⟨F,ρ,rp,h⟩
 exact qcG pins s σ H Q I (h F H rp .refl)
theorem yL (h:PE X e (tE C own m f)):PO X (some e) (tO C own (Qs (some f))):=by
 intro pins s σ H Q I ⟨F,ρ,rp,hp⟩
 refine qcH h pins s σ H Q I ⟨F,ρ,rp,?_⟩
 have hp:PoO C own σ F H ((f ρ).bind fun p=>match p.1 with | .int i=>.ok (some i,p.2) | _=>.bad) Q:=hp
 cases q:f ρ with
 | ok p=>
  rw [q] at hp
  obtain ⟨d,ρ1⟩:=p
  cases d with
  | int i=>exact fun v F1 H1 rp1 c1 mo1=>⟨i,mo1.top.int,hp F1 H1 rp1 c1⟩
  | _=>exact hp.elim
 | exc c=>rw [q] at hp; exact hp
 | bad=>rw [q] at hp; exact hp.elim
theorem ZC {r:V->Option Int->Option Int->Option Int->Hp->VK->Prop} {tl th tk:TO} {lo hi st:Option Expr} (hr:qha X r) (he:PE X e te) (hl:PO X lo tl) (hu:PO X hi th) (hk:PO X st tk) :
  PE X (.Subscript e (.Slice lo hi st p2) pos) (fun σ H Q=>te σ H fun x H1=>tl σ H1 fun l H2=>th σ H2 fun u H3=>tk σ H3 fun k H4=>r x l u k H4 Q):=by
 refine ⟨?_⟩
 intro pins s σ H Q I h
 refine Subscript_ (thn (he pins s σ H _ I h) fun v s1 ⟨x,H1,I1,r1,q1⟩=>?_)
 refine wpAny_Slice (thn (hl pins s1 σ H1 _ I1 q1) fun vl s2 ⟨l,H2,I2,pl,q2⟩=>thn (hu pins s2 σ H2 _ I2 q2) fun vu s3 ⟨u,H3,I3,pu,q3⟩=>thn (hk pins s3 σ H3 _ I3 q3) fun vk s4 ⟨k,H4,I4,pk,q4⟩=>?_)
 have I5:Inv X pins σ H4 { s4 with heap:=s4.heap.push { cls:=.type "slice",data:=.fields #[vl,vu,vk] } }:=I4.kept (t':=s4.toks) fun b ob q=>aa _ q
 obtain ⟨T,id,hT,ht,hg⟩:=hr pins { s4 with heap:=s4.heap.push { cls:=.type "slice",data:=.fields #[vl,vu,vk] } } σ H4 x v vl vu vk l u k s4.heap.objs.size Q I5 r1 (Heap.IsSliceOf.new ..) pl pu pk q4
 show wpAny (model X.prog X.w) X.A (subscriptTail e (.Slice lo hi st p2) v (.ref s4.heap.objs.size)) (EP X pins σ Q) X.xe { s4 with heap:=s4.heap.push { cls:=.type "slice",data:=.fields #[vl,vu,vk] } }
 cases st with
 | none=>exact tail_any (ops:=[.ref s4.heap.objs.size,v]) ht hT hg (by with_unfolding_all rfl)
 | some st=>exact tail_any (ops:=[v,.ref s4.heap.objs.size]) ht hT hg (by with_unfolding_all rfl)
theorem Jp {v:Value} {o:Option Int} (h:IsPart v o):∃ l:Option (Int×Tok),v=partValue l/\l.map (·.1)=o:=by
 cases h with
 | none=>exact ⟨none,rfl,rfl⟩
 | int i t=>exact ⟨some (i,t),rfl,rfl⟩
theorem qhM (hK:C.K=X.K):qha X (fun x lo hi st H Q=>∃ F d,Same F H/\Is C.K F x d/\PoV C .sh F H (slD lo hi st d) Q):=by
 intro pins s σ H x v vl vu vk lo hi st sl Q I rx hs pl pu pk h
 obtain ⟨F,d,sb,is,po⟩:=h
 cases d with
 | tup ds=>
  have is0:=is
  cases is with
  | @tup a xs _ hq t=>
   cases rx
   have hq':SqT X.K H a xs:=by rw [<-hK]; exact qV sb hq
   obtain ⟨its,r,ht,hz⟩:=I.tuple hq'
   have hlen:its.length=ds.length:=r.length.symm.trans t.length
   have po:PoV C .sh F H (if st.getD 1≠0/\(wb (Vc ds.length lo hi (st.getD 1)) ds).length<=sizeLine then .ok (.tup (wb (Vc ds.length lo hi (st.getD 1)) ds)) else .bad) Q:=po
   by_cases c:st.getD 1≠0/\(wb (Vc ds.length lo hi (st.getD 1)) ds).length<=sizeLine
   ·rw [if_pos c] at po
    have iv:=t.pick (Vc ds.length lo hi (st.getD 1))
    have rv:=gl r (Vc ds.length lo hi (st.getD 1))
    refine ⟨"tuple",_,cJ.lookup,ht.typeIs,gm ht hs pl pu pk c.1 (fun e=>?_) ?_ ?_⟩
    ·rw [ak,hlen] at e
     refine ⟨.ref a,H,I,rfl,po _ F H sb .refl ?_⟩
     rw [e,qa2]
     exact is0
    ·simp only [ak,hlen]
     have hlv:(wb (Vc ds.length lo hi (st.getD 1)) xs).length<=sizeLine:=by rw [iv.length]; exact c.2
     refine ⟨.ref s.heap.objs.size,_,I.laid (t':=s.toks) (o:=.tup (wb (Vc ds.length lo hi (st.getD 1)) xs)) (fun b ob q=>aa _ q) (ao _) ⟨⟨hlv,⟨_,ah _ rfl,rfl⟩⟩,_,rv,fB _ _⟩,rfl,?_⟩
     obtain ⟨s2,c2⟩:=wu (u:=.tup (wb (Vc ds.length lo hi (st.getD 1)) xs)) sb (I.hok.fresh (ao _))
     exact po _ _ _ s2 c2 (.tup (.inl (.inl qw)) (iv.mono c2.grow))
    ·simp only [ak,hlen]
     rw [<-rv.length,iv.length]
     exact c.2
   ·rw [if_neg c] at po; exact po.elim
 | str z=>
  cases is
  obtain ⟨t,rfl⟩:=rx
  have po:PoV C .sh F H (if st.getD 1≠0/\(QM z lo hi (st.getD 1)).length<=sizeLine then .ok (.str (QM z lo hi (st.getD 1))) else .bad) Q:=po
  by_cases c:st.getD 1≠0/\(QM z lo hi (st.getD 1)).length<=sizeLine
  ·rw [if_pos c] at po
   obtain ⟨l,rfl,el⟩:=Jp pl
   obtain ⟨u,rfl,eu⟩:=Jp pu
   obtain ⟨k,rfl,ek⟩:=Jp pk
   refine ⟨"str",_,PySem.F.slot_str_getitem.lookup,typeIs_str s z t,wpAny_getItem_str_slice (l:=l) (u:=u) (st:=k) hs (by rw [ek]; simpa using c.1) ?_⟩
   have c2:=c.2
   unfold sliceMade slicePicked
   rw [el,eu,ek]
   unfold QM at c2 po
   by_cases q:(st.getD 1 == 1&&(c7 lo hi (st.getD 1) z.length).length == z.length)=true
   ·rw [if_pos q] at c2 po ⊢
    exact ⟨.str z,H,I,⟨t,rfl⟩,po _ F H sb .refl (.str c2)⟩
   ·rw [if_neg q] at c2 po ⊢
    exact ⟨c2,.str _,H,I.tok _,⟨_,rfl⟩,po _ F H sb .refl (.str c2)⟩
  ·rw [if_neg c] at po; exact po.elim
 | _=>exact po.elim
theorem yM {lo hi st:Option Expr} {l u k:Option (Sl->Out (D×Sl))} (hK:C.K=X.K) (he:PE X e (tE C own ma fa)) (hl:PO X lo (tO C own (Qs l))) (hu:PO X hi (tO C own (Qs u))) (hk:PO X st (tO C own (Qs k))) (hma:ma≠.any:=by decide) :
  PE X (.Subscript e (.Slice lo hi st p2) pos) (tE C own .sh (zc fa l u k)):=by
 refine jJ (ZC (qhM (C:=C) hK) (yk he hma) hl hu hk) fun σ H Q ⟨F,ρ,rp,h⟩=>⟨F,ρ,rp,Po.bind h fun v F1 H1 d ρ1 rp1 c1 mo1 h1=>?_⟩
 refine ⟨F1,ρ1,rp1,Po.bindO h1 fun F2 H2 a ρ2 rp2 c2 h2=>⟨F2,ρ2,rp2,Po.bindO h2 fun F3 H3 b ρ3 rp3 c3 h3=>⟨F3,ρ3,rp3,Po.bindO h3 fun F4 H4 c ρ4 rp4 c4 h4=>?_⟩⟩⟩
 exact ⟨F4,d,rp4.sub,((mo1.mono c2.grow).mono c3.grow).mono c4.grow,PoV.of rp4 h4⟩
end
noncomputable def Its (x:Str):It:=⟨fun i _=>i < x.cps.size,fun i H v H'=>H'=H/\∃ c,x.cps[i]?=some c/\v=.str ⟨#[c]⟩,fun i _=>x.cps.size<=i⟩
noncomputable def zw (x:Str):List D:=x.cps.toList.map fun c=>.str ⟨#[c]⟩
theorem UM {P:Program} {w:World} {K:Frag} {tg:Expr} (it:Addr) (x:Str) (t:Tok) (ty:String) (hn:["enumerate", "zip", "dict_itemiterator", "dict_reverseitemiterator", "odict_iterator", "itertools.zip_longest", "itertools.pairwise"].contains ty=false)
  (W:∀ A:Around,A.handled=none->Walks P w A it [it] [it] x.cps.size (SignAt x) (fun i h=>h.IsStrIter it ty x t i)) (sf:∀ (A:Around) (i:Nat) (s:Shared) (Q:Value->Shared->Prop) (E:Value->Shared->Prop),s.heap.IsStrIter it ty x t i->Q (.ref it) s->wpAny (model P w) A (pyIter (.ref it)) Q E s) :
  Turn P w K tg (Its x) [it] it (fun i h=>h.IsStrIter it ty x t i/\i<=x.cps.size) where
 mem:=by simp
 obj:=fun i h st b hb=>by
  have e:b=it:=by simpa using hb
  subst e
  obtain ⟨o,e,c,d⟩:=st.1
  exact ⟨o,e,fun v z=>by rw [d] at z; cases z⟩
 keep:=fun i h h' st k=>by
  obtain ⟨⟨o,e,r⟩,hi⟩:=st
  exact ⟨⟨o,k it (by simp) o e,r⟩,hi⟩
 item:=by
  intro X hP hw hK hc i pins s σ H E I hf st hg
  subst hP hw hK
  obtain ⟨f0,f1,f2,f3,f4,f5⟩:=hf it (by simp)
  refine (W X.A (I.ok.hd hc)).item i s _ _ hg st.1 fun v h' tk hP st' kp=>?_
  have I1:Inv X pins σ H { s with heap:=h',toks:=tk }:=I.turned (t':=tk) (fun b o hb e=>kp b o (by simpa using hb) e) f0 f1 f3 f4 f5
  obtain ⟨o,e,c,d⟩:=id st'
  obtain ⟨c',u,h1,h2⟩:∃ c' u,x.cps[i]?=some c'/\v=dS ⟨#[c']⟩ u:=by
   unfold SignAt at hP
   first
    | exact hP
    | (obtain ⟨c',u,h1,h2⟩:=hP; exact ⟨c',u,h1,h2⟩)
    | (obtain ⟨c',h1,u,h2⟩:=hP; exact ⟨c',u,h1,h2⟩)
    | (obtain ⟨u,c',h1,h2⟩:=hP; exact ⟨c',u,h1,h2⟩)
  subst h2
  exact ⟨_,rfl,qay (s:={ s with heap:=h',toks:=tk }) e c d hn ⟨.str ⟨#[c']⟩,H,I1,⟨u,rfl⟩,⟨rfl,c',h1,rfl⟩,⟨st',hg⟩,fun b hb=>(hf b hb).1⟩⟩
 done:=by
  intro X hP hw hK hc i pins s σ H E I hf st hg
  subst hP hw hK
  obtain ⟨f0,f1,f2,f3,f4,f5⟩:=hf it (by simp)
  have hi:i=x.cps.size:=Nat.le_antisymm st.2 hg
  subst hi
  exact (W X.A (I.ok.hd hc)).done s _ _ st.1 fun h' tk kp=>⟨rfl,I.turned (t':=tk) (fun b o hb e=>kp b o (by simpa using hb) e) f0 f1 f3 f4 f5⟩
 self:=fun A i s Q E st h=>sf A i s Q E st.1 h
theorem qeS:ItIs K F (Its x) (zw x) where
 go:=fun i H hi _=>by
  have:i < x.cps.size:=by simpa [zw] using hi
  exact this
 yld:=fun i Fi H v H' d e s1 s2 y=>by
  obtain ⟨rfl,c,h1,rfl⟩:=y
  have e:d=.str ⟨#[c]⟩:=by
   unfold zw at e
   rw [aH] at e
   have h1:x.cps.toList[i]?=some c:=by simpa using h1
   rw [h1] at e
   exact (aK.inj e).symm
  subst e
  exact ⟨Fi,.refl,s2,.str (UF c)⟩
 stop:=fun i H hi _=>by
  have:x.cps.size<=i:=by simpa [zw] using hi
  exact this
noncomputable def kf:D->Out (List D)
 | .lst xs=>.ok xs
 | .tup xs=>.ok xs
 | .str x=>.ok (zw x)
 | _=>.bad
noncomputable def vx (f:Sl->Out (D×Sl)):Sl->Out (List D×Sl):=fun ρ=>(f ρ).bind fun p=>(kf p.1).bind fun ds=>.ok (ds,p.2)
section
theorem qeT {l:Expr} {tl:TE} (hl:PE X l tl):PI X tg l (fun σ H R=>tl σ H fun x H1=>(∃ a,x=.ref a/\(((∃ xs,SqL X.K H1 a xs)/\R (Itl X.K a) H1)\/((∃ xs,SqT X.K H1 a xs)/\R (Itt X.K a) H1)))\/∃ z,x=.str z/\R (Its z) H1):=by
 refine ⟨?_⟩
 intro pins s σ H R I h
 refine thn (hl pins s σ H _ I h) fun v s1 ⟨x,H1,I1,r1,q1⟩=>?_
 have fp:∀ b∈[s1.heap.objs.size],VT X pins H1 b:=fun b hb=>by
  have e:b=s1.heap.objs.size:=by simpa using hb
  subst e
  exact I1.fpOk (ao _) (I1.hok.fresh (ao _))
 rcases q1 with ⟨a,rfl,q⟩ | ⟨z,rfl,q⟩
 ·cases r1
  rcases q with ⟨⟨xs,hq⟩,q⟩ | ⟨⟨xs,hq⟩,q⟩
  ·obtain ⟨its,rv,p,hz⟩:=I1.list hq
   refine wpAny_pyIter_list p.isList ?_
   exact ⟨s1.heap.objs.size,[s1.heap.objs.size],_,_,H1,rfl,I1.kept (t':=s1.toks) fun b o e=>aa _ e,XD a _,⟨_,ah _ rfl,rfl,rfl⟩,fp,q⟩
  ·obtain ⟨its,rv,p,hz⟩:=I1.tuple hq
   refine wpAny_pyIter_tuple (show s1.heap.IsTuple a its.toArray from p) ?_
   exact ⟨s1.heap.objs.size,[s1.heap.objs.size],_,_,H1,rfl,I1.kept (t':=s1.toks) fun b o e=>aa _ e,YC a _,⟨_,ah _ rfl,rfl,rfl⟩,fp,q⟩
 ·obtain ⟨t,rfl⟩:=r1
  cases ha:z.cps.all (· < 128) with
  | true=>
   refine wpAny_pyIter_ascii ha ?_
   exact ⟨s1.heap.objs.size,[s1.heap.objs.size],_,_,H1,rfl,I1.kept (t':=s1.toks) fun b o e=>aa _ e,UM _ z t "str_ascii_iterator" (by decide) (fun A hA=>Walks.strAscii hA _ z t) (fun A i s Q E st h=>wpAny_pyIter_striter_ascii st h),⟨⟨_,ah _ rfl,rfl,rfl⟩,bB _⟩,fp,q⟩
  | false=>
   refine wpAny_pyIter_wide ha ?_
   exact ⟨s1.heap.objs.size,[s1.heap.objs.size],_,_,H1,rfl,I1.kept (t':=s1.toks) fun b o e=>aa _ e,UM _ z t "str_iterator" (by decide) (fun A hA=>Walks.strWide hA _ z t) (fun A i s Q E st h=>wpAny_pyIter_striter_wide st h),⟨⟨_,ah _ rfl,rfl,rfl⟩,bB _⟩,fp,q⟩
theorem jm (hK:C.K=X.K) (h:PE X e (tE C own m f)) (hm:m≠.any:=by decide):PI X tg e (tIt C own (vx f)):=by
 refine qcY (qeT (yk h hm)) fun σ H R ⟨F,ρ,rp,h⟩=>⟨F,ρ,rp,PoI.bindV h fun v F1 H1 d ρ1 rp1 c1 mo1 h1=>?_⟩
 have mo1:Is C.K F1 v d:=mo1
 cases mo1 with
 | lst p t=>exact .inl ⟨_,rfl,.inl ⟨⟨_,by rw [<-hK]; exact rp1.sub.seq p⟩,by rw [<-hK]; exact h1 _ F1 H1 rp1 c1 (qeH p t)⟩⟩
 | tup p t=>exact .inl ⟨_,rfl,.inr ⟨⟨_,by rw [<-hK]; exact qV rp1.sub p⟩,by rw [<-hK]; exact h1 _ F1 H1 rp1 c1 (qeI p t)⟩⟩
 | str hz=>exact .inr ⟨_,rfl,h1 _ F1 H1 rp1 c1 qeS⟩
 | _=>exact h1.elim
end
noncomputable def yN (b:Bool):D->Out D
 | .lst ds=>match kr ds with
  | some bs=>.ok (.int (bs.countP (· == b):Nat))
  | none=>.bad
 | _=>.bad
noncomputable def yO (b:Bool):D->Out D
 | .lst ds=>match kr ds with
  | some bs=>match bs.findIdx? (· == b) with
   | some j=>.ok (.int (j:Nat))
   | none=>.bad
  | none=>.bad
 | _=>.bad
section
variable {o:Expr} {fo:Sl->Out (D×Sl)} {apos:Pos} {b:Bool}
theorem Vd (A:Around) (s:Shared) (c b:Bool):fG A s (.bool c) (.bool b) (c == b):=SeqAt.EqAt.bool_bool _ _
theorem qa3:MtR X "list.count" (fun x vs H Q=>∃ (a:Addr) (xs:List V) (bs:List Bool) (b:Bool),x=.ref a/\vs=[.bl b]/\SqL X.K H a xs/\(∀ us,Vals xs us->us=bs.map aP)/\Q (.int (bs.countP (· == b):Nat)) H):=by
 intro pins s σ H x vs v us Q I rx rv h
 obtain ⟨a,xs,bs,b,rfl,rfl,hq,hb,q⟩:=h
 cases rx
 obtain ⟨u,rfl,ru⟩:=rv.one
 cases ru
 obtain ⟨its,r,pl,hz⟩:=I.list hq
 have e:=hb its r
 subst e
 obtain ⟨⟨cls,dd,data,sl⟩,n,ho,hc,hd,hdt⟩:=pl
 simp only at hc hd hdt
 subst hc hdt
 refine call_meets PySem.F.slot_list_count ⟨_,ho,rfl⟩ PySem.F.entry_list_count (PySem.F.args_list_count_2 _ _) (SeqAt.list_countAt a _ n dd sl (.bool b) (fun v=>v == .bool b)) ⟨ho,fun y hy=>?_,?_⟩
 ·have hy:y∈bs.map aP:=by simpa using hy
  obtain ⟨c,_,rfl⟩:=ay.mp hy
  have e:(aP c == aP b)=(c == b):=by cases c <;> cases b <;> rfl
  show fG _ s (.bool c) (.bool b) (aP c == aP b)
  rw [e]
  exact Vd _ s c b
 ·refine ⟨.int (bs.countP (· == b):Nat),H,I.tok _,⟨s.toks,?_⟩,q⟩
  have e:(bs.map aP).toArray.toList.countP (fun v=>v == aP b)=bs.countP (· == b):=by
   rw [List.toList_toArray,List.countP_map]
   congr 1
   funext c
   cases c <;> cases b <;> rfl
  rw [e]
theorem qa4:MtR X "list.index" (fun x vs H Q=>∃ (a:Addr) (xs:List V) (bs:List Bool) (b:Bool) (j:Nat),x=.ref a/\vs=[.bl b]/\SqL X.K H a xs/\(∀ us,Vals xs us->us=bs.map aP)/\bs.findIdx? (· == b)=some j/\Q (.int (j:Nat)) H):=by
 intro pins s σ H x vs v us Q I rx rv h
 obtain ⟨a,xs,bs,b,j,rfl,rfl,hq,hb,hj,q⟩:=h
 cases rx
 obtain ⟨u,rfl,ru⟩:=rv.one
 cases ru
 obtain ⟨its,r,pl,hz⟩:=I.list hq
 have e:=hb its r
 subst e
 obtain ⟨⟨cls,dd,data,sl⟩,n,ho,hc,hd,hdt⟩:=pl
 simp only at hc hd hdt
 subst hc hdt
 obtain ⟨hj1,hj2,hj3⟩:=List.findIdx?_eq_some_iff_getElem.mp hj
 have hlen:bs.length<=sizeLine:=by have:=r.length; simp at this; omega
 have ev:∀ c:Bool,(aP c == aP b)=(c == b):=fun c=>by cases c <;> cases b <;> rfl
 refine call_meets PySem.F.slot_list_index ⟨_,ho,rfl⟩ PySem.F.entry_list_index (PySem.F.args_list_index_2 _ _) (SeqAt.list_indexAt a _ n dd sl (.bool b) (fun v=>v == .bool b) j (by simpa using hj1) (by rw [sizeLine_eq] at hlen; omega) (by simp [ev]; simpa using hj2) fun m hm h1=>?_) ⟨ho,fun y hy=>?_,?_⟩
 ·have:=hj3 m h1
  simp [ev]
  simpa using this
 ·have hy:y∈bs.map aP:=by simpa using hy
  obtain ⟨c,_,rfl⟩:=ay.mp hy
  show fG _ s (.bool c) (.bool b) (aP c == aP b)
  rw [ev]
  exact Vd _ s c b
 ·exact ⟨.int (j:Nat),H,I.tok _,⟨_,rfl⟩,q⟩
theorem qa5 {c1 c2} (hK:C.K=X.K) (ho:PE X o (tE C own m fo))
  (hbase:attributeBase o "count" X.env (eval o X.env)=eval o X.env:=by rfl)
  (hfew:((backTo cpos (starEach [.Constant (.bool b) c1 c2] X.env)).all (fun x=>!x.1)&&(backToKw cpos (keywordEach [] X.env)).all (fun x=>x.1.isSome)
   && decide ([fm (.bool b) c1 c2].length+([]:List Keyword).length+(if ([]:List Keyword).isEmpty then 0 else 1) < 30))=true:=by exact wo rfl)
  (hline:(apos.endLine == cpos.line)=true:=by rfl) (hs:starEach [.Constant (.bool b) c1 c2] X.env=[(false,eval (.Constant (.bool b) c1 c2) X.env)]:=by exact qY rfl) :
  PE X (.Call (.Attribute o "count" apos) [.Constant (.bool b) c1 c2] [] cpos) (tE C own .sh (d1 (yN b) fo)):=by
 refine jJ (YI bY PySem.F.slot_list_count PySem.F.type_list_count qa3 ho (qT qct jM hs) hbase hfew hline hs rfl) fun σ H Q h=>?_
 obtain ⟨F,ρ,rp,h⟩:=Wj (ma:=m) h
 refine ⟨F,ρ,rp,?_⟩
 cases q:fo ρ with
 | ok p=>
  rw [q] at h
  obtain ⟨d,ρ1⟩:=p
  intro v F1 H1 rp1 c1 mo1
  obtain ⟨F2,dx,sb,tx,po⟩:=h v F1 H1 rp1 c1 mo1
  cases dx <;> try exact po.elim
  rename_i ds
  unfold yN at po
  cases q2:kr ds with
  | none=>simp only [q2] at po; exact po.elim
  | some bs=>
   simp only [q2] at po
   obtain ⟨a,vs,rfl,hq,t⟩:=tx.lst sb
   have hq':SqL X.K H1 a vs:=by rw [<-hK]; exact hq
   exact ⟨.inl ⟨rfl,vs,hq'⟩,a,vs,bs,b,rfl,rfl,hq',fun us r=>zI t r q2,po _ F2 H1 sb .refl (.int _)⟩
 | exc c=>rw [q] at h; exact h
 | bad=>rw [q] at h; exact h.elim
theorem qa6 {c1 c2} (hK:C.K=X.K) (ho:PE X o (tE C own m fo))
  (hbase:attributeBase o "index" X.env (eval o X.env)=eval o X.env:=by rfl)
  (hfew:((backTo cpos (starEach [.Constant (.bool b) c1 c2] X.env)).all (fun x=>!x.1)&&(backToKw cpos (keywordEach [] X.env)).all (fun x=>x.1.isSome)
   && decide ([fm (.bool b) c1 c2].length+([]:List Keyword).length+(if ([]:List Keyword).isEmpty then 0 else 1) < 30))=true:=by exact wo rfl)
  (hline:(apos.endLine == cpos.line)=true:=by rfl) (hs:starEach [.Constant (.bool b) c1 c2] X.env=[(false,eval (.Constant (.bool b) c1 c2) X.env)]:=by exact qY rfl) :
  PE X (.Call (.Attribute o "index" apos) [.Constant (.bool b) c1 c2] [] cpos) (tE C own .sh (d1 (yO b) fo)):=by
 refine jJ (YI bY PySem.F.slot_list_index PySem.F.type_list_index qa4 ho (qT qct jM hs) hbase hfew hline hs rfl) fun σ H Q h=>?_
 obtain ⟨F,ρ,rp,h⟩:=Wj (ma:=m) h
 refine ⟨F,ρ,rp,?_⟩
 cases q:fo ρ with
 | ok p=>
  rw [q] at h
  obtain ⟨d,ρ1⟩:=p
  intro v F1 H1 rp1 c1 mo1
  obtain ⟨F2,dx,sb,tx,po⟩:=h v F1 H1 rp1 c1 mo1
  cases dx <;> try exact po.elim
  rename_i ds
  unfold yO at po
  cases q2:kr ds with
  | none=>simp only [q2] at po; exact po.elim
  | some bs=>
   simp only [q2] at po
   cases q3:bs.findIdx? (· == b) with
   | none=>simp only [q3] at po; exact po.elim
   | some j=>
    simp only [q3] at po
    obtain ⟨a,vs,rfl,hq,t⟩:=tx.lst sb
    have hq':SqL X.K H1 a vs:=by rw [<-hK]; exact hq
    exact ⟨.inl ⟨rfl,vs,hq'⟩,a,vs,bs,b,j,rfl,rfl,hq',fun us r=>zI t r q2,q3,po _ F2 H1 sb .refl (.int _)⟩
 | exc c=>rw [q] at h; exact h
 | bad=>rw [q] at h; exact h.elim
end
end L2.D2
namespace L2.D2
open PySem PySem.Spec PySem.Calls PyProof.Rows PySem.W Builtin Builtin.ObjectAttr Builtin.Getset_descriptor
variable {K:Frag} {R:Result->Shared->Prop}
section
variable {prog:Program} {w:World} {A:Around} {E:Value->Shared->Prop} {h:Heap} {g:Array GenState} {d:Drawn} {t:Nat} {os:OsState} {a C:Addr} {o:Obj}
theorem qeU (X:K.In h) (L0:Looks (model prog w) h (typeOf (.ref a)) (.ref C)) (hm:mroIn K C (.type "object")=some true) (hq:R (.ok (.ret (.ref C))) ⟨h,g,d,t,os⟩) :
  codeAny (model prog w) A (.call (.builtin "getset_descriptor.__get__") ⟨[.builtin "object.__class__",.ref a,.ref C],[]⟩) R ⟨h,g,d,t,os⟩:=by
 have L1:=looks_mroIn (M:=model prog w) X hm
 refine codeAny_call_builtin KF.slot_gs.plain KF.entry_gs (KF.slot_gs.check _ _ _ _ _ _ _ _ fq (KF.args_gs _ _ _) ?_)
 unfold Builtin.«getset_descriptor.__get__» descrGet
 rw [dga_obj]
 refine wpAny_bind (wpAny_pure ?_)
 unfold descrGetter descrCheckInstance descrNameAndClass isInstance
 simp only [KF.owner_class]
 repeat lk
 refine ⟨Code.quiet_builtin _ (by decide +kernel),codeAny_builtin KF.entry_class ?_⟩
 unfold Builtin.«object.__class__» shownTypeOf
 repeat lk
 exact hq
theorem qa7 {nameV:Value} {Q:Unit->Shared->Prop} (X:K.In h) (L0:Looks (model prog w) h (typeOf (.ref a)) (.ref C)) (hs:subIn K (.ref C) (.type "BaseException")=some true) (hq:Q () ⟨h,g,d,t,os⟩) :
  wpAny (model prog w) A (checkBuiltinCall "BaseException.__getattribute__" ⟨[.ref a,nameV],[]⟩) Q E ⟨h,g,d,t,os⟩:=by
 have hk:builtinKind "BaseException.__getattribute__"=some .slot:=by decide +kernel
 have hsplit:splitId "BaseException.__getattribute__"=some ("BaseException", "__getattribute__"):=by decide +kernel
 have ha:=F.args_bexc_ga (.ref a) nameV
 have LI:Looks (model prog w) h (isInstance (.ref a) (.type "BaseException")) true:=L0.andThen (looks_subIn X hs)
 simp only [checkBuiltinCall,hk,hsplit]
 refine wpAny_bind (LI.at ?_)
 repeat (first | assumption | wp_step)
theorem qa8 {tk:Tok} {Q:Fin->Shared->Prop} (X:K.In h) (L0:Looks (model prog w) h (typeOf (.ref a)) (.ref C)) (g3:findIn K (.ref C) "__class__"=some (some (.builtin "object.__class__"))) (hm:mroIn K C (.type "object")=some true) (hq:Q (.done (.ret (.ref C))) ⟨h,g,d,t,os⟩) :
  wpAny (model prog w) A (Builtin.«object.__getattribute__» ⟨[.ref a,.str "__class__" tk],[]⟩) Q E ⟨h,g,d,t,os⟩:=by
 have L3:=looks_findIn (M:=model prog w) X g3
 have hT5:(⟨h,g,d,t,os⟩:Shared).TypeIs (.builtin "object.__class__") "getset_descriptor":=fq
 have f5:=fq
 have f6:=F.slot_gs_get.lookup
 have f7:=F.slot_gs_set.lookup
 repeat (any_goals (first | assumption | with_reducible refine L0.at ?_ | with_reducible refine L3.at ?_ | wp_step))
 refine qeU X L0 hm ?_
 repeat (any_goals (first | assumption | wp_step))
theorem qc5 {tk:Tok} (X:K.In h) (L0:Looks (model prog w) h (typeOf (.ref a)) (.ref C)) (hs:subIn K (.ref C) (.type "BaseException")=some true) (g3:findIn K (.ref C) "__class__"=some (some (.builtin "object.__class__"))) (hm:mroIn K C (.type "object")=some true) (hq:R (.ok (.ret (.ref C))) ⟨h,g,d,t,os⟩) :
  codeAny (model prog w) A (.call (.builtin "BaseException.__getattribute__") ⟨[.ref a,.str "__class__" tk],[]⟩) R ⟨h,g,d,t,os⟩:=
 codeAny_call_builtin F.excAttr_ValueError.ga.plain F.entry_bexc_ga (qa7 X L0 hs (qa8 X L0 g3 hm hq))
theorem qgF {tk:Tok} {fill expr:Bool} {Q:Value->Shared->Prop} (X:K.In h) (L0:Looks (model prog w) h (typeOf (.ref a)) (.ref C)) (hs:subIn K (.ref C) (.type "BaseException")=some true) (g1:findIn K (.ref C) "__getattribute__"=some (some (.builtin "BaseException.__getattribute__"))) (g2:findIn K (.ref C) "__getattr__"=some none)
  (g3:findIn K (.ref C) "__class__"=some (some (.builtin "object.__class__"))) (hm:mroIn K C (.type "object")=some true) (hq:Q (.ref C) ⟨h,g,d,t,os⟩) :
  wpAny (model prog w) A (getAttrBy (.ref a) (.str "__class__" tk) fill expr) Q E ⟨h,g,d,t,os⟩:=by
 have L1:=looks_findIn (M:=model prog w) X g1
 have L2:=looks_findIn (M:=model prog w) X g2
 have f3:=F.excAttr_ValueError.ga.bind (.ref a)
 have hx0:(expr&&onTheHeap (dh "BaseException.__getattribute__"))=false:=by cases expr <;> rfl
 have hx2:(dh "BaseException.__getattribute__" == dh "object.__getattribute__")=false:=by decide +kernel
 have hx1:(onTheHeap (bN C)&&dh "BaseException.__getattribute__" == dh "object.__getattribute__")=false:=by rw [hx2]; rfl
 repeat (any_goals (first | assumption | with_reducible refine L0.at ?_ | with_reducible refine L1.at ?_ | with_reducible refine L2.at ?_ | wp_step))
 refine qc5 X L0 hs g3 hm ?_
 repeat (any_goals (first | assumption | wp_step))
theorem qc6 {Q:Option Value->Shared->Prop} (X:K.In h) (L0:Looks (model prog w) h (typeOf (.ref a)) (.ref C)) (hs:subIn K (.ref C) (.type "BaseException")=some true) (g1:findIn K (.ref C) "__getattribute__"=some (some (.builtin "BaseException.__getattribute__"))) (g2:findIn K (.ref C) "__getattr__"=some none)
  (g3:findIn K (.ref C) "__class__"=some (some (.builtin "object.__class__"))) (hm:mroIn K C (.type "object")=some true) (hq:Q (some (.ref C)) ⟨h,g,d,t+1,os⟩) :
  wpAny (model prog w) A (getAttr? (.ref a) "__class__") Q E ⟨h,g,d,t,os⟩:=by
 unfold getAttr? getAttrBy?
 exact wpAny_bind (wpAny_mkText (wpAny_bind (wpAny_attempt (qgF X L0 hs g1 g2 g3 hm (wpAny_pure hq)))))
end
noncomputable def xcB (K:Frag) (C:Addr):Bool:=decide (subIn K (.ref C) (.type "BaseException")=some true)&&decide (findIn K (.ref C) "__getattribute__"=some (some (.builtin "BaseException.__getattribute__")))&&decide (findIn K (.ref C) "__getattr__"=some none) &&
 decide (findIn K (.ref C) "__class__"=some (some (.builtin "object.__class__")))&&decide (mroIn K C (.type "object")=some true)&&(clsIn K C).isSome
def qc7 (a C:Addr) (h:Heap):Prop:=∃ oe vs,h.get? a=some oe/\oe.cls=.ref C/\oe.data=.fields vs
theorem qa9 {a C:Addr} (b:xcB K C=true):KitX K (.ref a) (.ref C) (qc7 a C):=by
 unfold xcB at b
 simp only [aN,decide_eq_true_eq] at b
 obtain ⟨⟨⟨⟨⟨b1,b2⟩,b3⟩,b4⟩,b5⟩,b6⟩:=b
 have ty:∀ (M:Model) (h:Heap),qc7 a C h->Looks M h (typeOf (.ref a)) (.ref C):=fun M h ⟨oe,vs,e1,e2,e3⟩=>by rw [<-e2]; exact (Looks.ld e1).andThen .now
 refine ⟨fun M h _ x=>ty M h x,fun M h X _=>?_,fun h tp dd its n sl X ht=>?_,fun {prog w A E Q s} X x hq=>?_⟩
 ·unfold clsIn at b6
  split at b6
  ·rename_i c' d' cd' sl' ho
   intro A' Q' E' s' k q
   unfold isType loadHead
   exact wpAny_bind (wpAny_loadPart (k _ _ (X _ _ ho)) (wpAny_pure q))
  ·cases b6
 ·refine Bool.eq_false_iff.mpr fun q=>?_
  have q:bN C=bN tp:=beq_iff_eq.mp q
  cases q
  unfold clsIn at b6
  split at b6
  ·rename_i c' d' cd' sl' ho
   rw [X _ _ ho] at ht
   cases ht
  ·cases b6
 ·obtain ⟨h,g,d,t,os⟩:=s
  exact qc6 X (ty _ h x) b1 b2 b3 b4 b5 hq
noncomputable def zd (ans:Addr->Option Bool):D->Out D
 | .xcp C=>match ans C with
  | some b=>.ok (.bl b)
  | none=>.bad
 | _=>.bad
variable {cn:Str}
section
variable {X:Cx} {C:Ct} {own:List Nat} {a:Expr} {fa:Sl->Out (D×Sl)} {ma:Mo} {pos:Pos} {cls:Value} {vc:V} {ans:Addr->Option Bool}
theorem UN (hans:∀ Cc b,ans Cc=some b->xcB X.K Cc=true/\kitOne X.K (.ref Cc) cls=some b) (rc:RelV vc cls):ub X (.builtin "isinstance") (fun xs H Q=>∃ x F d,xs=[x,vc]/\Same F H/\TopIs C.K F H x d/\PoV C .sh F H (zd ans d) Q):=by
 intro pins s σ H xs us Q I r h
 obtain ⟨x,F,d,rfl,sb,tx,po⟩:=h
 obtain ⟨u,c,rfl,ru,rc'⟩:=qaD r
 cases d with
 | xcp Cc=>
  unfold zd at po
  cases q:ans Cc with
  | none=>simp only [q] at po; exact po.elim
  | some b=>
   simp only [q] at po
   obtain ⟨h1,h2⟩:=hans Cc b q
   rcases tx with tx | ⟨_,_,tx⟩
   ·cases tx with
    | @xcp ad _ hF=>
     cases ru
     have hx:qc7 ad Cc s.heap:=(show ObjOk X.prog X.w H s.heap ad (QB ad Cc) from I.hok ad _ (sb _ _ hF)).1
     have e:cls=c:=by
      cases vc with
      | ref z=>exact (show cls=bN z from rc).trans (show c=bN z from rc').symm
      | ty z=>exact (show cls=eU z from rc).trans (show c=eU z from rc').symm
      | non=>exact (show cls=cC from rc).trans (show c=cC from rc').symm
      | bl z=>exact (show cls=aP z from rc).trans (show c=aP z from rc').symm
      | int z=>obtain ⟨t,rfl⟩:=rc; unfold kitOne kitCls at h2; simp at h2
      | str z=>obtain ⟨t,rfl⟩:=rc; unfold kitOne kitCls at h2; simp at h2
      | byt z=>obtain ⟨t,rfl⟩:=rc; unfold kitOne kitCls at h2; simp at h2
      | flt z=>obtain ⟨t,rfl⟩:=rc; unfold kitOne kitCls at h2; simp at h2
     subst e
     exact kia_one (qa9 h1) I.kIn hx h2 (fun z=>nomatch z) fun tk=>⟨.bl b,H,I.tok tk,rfl,po _ F H sb .refl (.bl b)⟩
   ·exact tx.elim
 | _=>exact po.elim
theorem UO {σ:St} {H:Hp} {Q:VK} (h:tE C own .sh (d1 (zd ans) fa) σ H Q):YG (tE C own ma fa) (YG (tC vc) qfO) σ H fun xs H1=>∃ x F d,xs=[x,vc]/\Same F H1/\TopIs C.K F H1 x d/\PoV C .sh F H1 (zd ans d) Q:=by
 obtain ⟨F,ρ,rp,h⟩:=Wj (ma:=ma) h
 refine ⟨F,ρ,rp,?_⟩
 cases q:fa ρ with
 | ok p=>
  rw [q] at h
  obtain ⟨d,ρ1⟩:=p
  intro v F1 H1 rp1 c1 mo1
  obtain ⟨F2,dx,z⟩:=h v F1 H1 rp1 c1 mo1
  exact ⟨v,F2,dx,rfl,z⟩
 | exc c=>rw [q] at h; exact h
 | bad=>rw [q] at h; exact h.elim
theorem wc {Ct:Addr} {p tp:Pos} (hg:Gl X "isinstance") (hm:X.mg "isinstance"=none) (hv:bootBuiltins "isinstance"=some (.builtin "isinstance")) (ht:Gl X cn) (htm:X.mg cn=some (.ref Ct)) (hans:∀ Cc b,ans Cc=some b->xcB X.K Cc=true/\kitOne X.K (.ref Cc) (.ref Ct)=some b) (ha:PE X a (tE C own ma fa)) (hdb:(cn == ("__debug__":Str))=false:=by decide)
  (h1:starEach [a,.Name cn tp] X.env=(false,eval a X.env)::starEach [.Name cn tp] X.env:=by rfl) (h2:starEach [.Name cn tp] X.env=[(false,eval (.Name cn tp) X.env)]:=by rfl):PE X (.Call (.Name "isinstance" p) [a,.Name cn tp] [] pos) (tE C own .sh (d1 (zd ans) fa)):=
 jJ (wn (UN (vc:=.ref Ct) hans rfl) hg hm hv (qT ha (qT (XB (v:=.ref Ct) ht htm rfl hdb) jM h2) h1) (by decide) (by decide) (by rw [h1]) (by rw [h2]; rfl)) fun σ H Q h=>UO h
theorem qc8 {T:String} {p tp:Pos} (hg:Gl X "isinstance") (hm:X.mg "isinstance"=none) (hv:bootBuiltins "isinstance"=some (.builtin "isinstance")) (ht:Gl X cn) (htm:X.mg cn=none) (htv:bootBuiltins cn=some (.type T)) (hans:∀ Cc b,ans Cc=some b->xcB X.K Cc=true/\kitOne X.K (.ref Cc) (.type T)=some b) (ha:PE X a (tE C own ma fa)) (hn:cn ≠ "__name__":=by decide) (hdb:(cn == ("__debug__":Str))=false:=by decide)
  (h1:starEach [a,.Name cn tp] X.env=(false,eval a X.env)::starEach [.Name cn tp] X.env:=by rfl) (h2:starEach [.Name cn tp] X.env=[(false,eval (.Name cn tp) X.env)]:=by rfl):PE X (.Call (.Name "isinstance" p) [a,.Name cn tp] [] pos) (tE C own .sh (d1 (zd ans) fa)):=
 jJ (wn (UN (vc:=.ty T) hans rfl) hg hm hv (qT ha (qT (XC (v:=.ty T) ht htm htv rfl hn hdb) jM h2) h1) (by decide) (by decide) (by rw [h1]) (by rw [h2]; rfl)) fun σ H Q h=>UO h
end
end L2.D2
namespace L2.D2
open PySem PySem.Spec PyProof.Rows
variable {P:Program} {w:World} {K:Frag} {N:List Str} {A:Around} {C:Ct}
theorem gn {mg:Str->Option Value} {base:Heap} {qual:Str} {scope:Scope} {f:Addr} {cd:Value} {outer:List Env} {s0:Shared} {H0:Hp} {E:XK} (h:C.E=E):Zx (cxk P w K mg base N qual scope f cd A outer s0 H0 E) C:=by
 subst h
 exact qeM
theorem RoomQ.mono {j k:Nat} (r:RoomQ k A) (h:j<=k):RoomQ j A:=⟨by have:=r.dp; omega,by have:=r.un; omega⟩
noncomputable def qaq (ca:Str->Addr) (cs:List Str) (c:Str):Option Addr:=if c∈cs then some (ca c) else none
noncomputable def Ve (ca:Str->Addr) (cs:List Str) (x:Str) (C:Addr):Option Bool:=if C∈cs.map ca then some (decide (C=ca x)) else none
noncomputable def qeV (ca:Str->Addr) (cs:List Str) (C:Addr):Option Bool:=if C∈cs.map ca then some true else none
structure Xs (K:Frag) (cv:Str->Value) (ca:Str->Addr) (cs:List Str) (top:Str):Prop where
 val:∀ c∈cs,cv c=.ref (ca c)
 own:∀ c∈cs,bu K (.ref (ca c)) (cv top)=some true
 cls:∀ c∈cs,xcB K (ca c)=true
 kit:∀ c∈cs,∀ d∈cs,bM K (.ref (ca c)) (.ref (ca d))=some (decide (ca c=ca d))
 ve:∀ c∈cs,bM K (.ref (ca c)) (.type "ValueError")=some true
variable {x:Str}
section
variable {cv:Str->Value} {ca:Str->Addr} {cs:List Str} {top:Str}
theorem Xs.hit (z:Xs K cv ca cs top):∀ c Cc,qaq ca cs c=some Cc->cv c=.ref Cc/\bu K (.ref Cc) (cv top)=some true:=fun c Cc h=>by
 unfold qaq at h
 split at h
 ·cases h
  exact ⟨z.val c (by assumption),z.own c (by assumption)⟩
 ·cases h
theorem Xs.ans (z:Xs K cv ca cs top) (hx:x∈cs):∀ Cc b,Ve ca cs x Cc=some b->xcB K Cc=true/\bM K (.ref Cc) (.ref (ca x))=some b:=fun Cc b h=>by
 unfold Ve at h
 split at h
 ·rename_i hm
  obtain ⟨c,hc,rfl⟩:=ay.mp hm
  cases h
  exact ⟨z.cls c hc,z.kit c hc x hx⟩
 ·cases h
theorem Xs.ansV (z:Xs K cv ca cs top):∀ Cc b,qeV ca cs Cc=some b->xcB K Cc=true/\bM K (.ref Cc) (.type "ValueError")=some b:=fun Cc b h=>by
 unfold qeV at h
 split at h
 ·rename_i hm
  obtain ⟨c,hc,rfl⟩:=ay.mp hm
  cases h
  exact ⟨z.cls c hc,z.ve c hc⟩
 ·cases h
end
variable {E:Value->Shared->Prop} {prog:Program} {s:Shared}
section
theorem ze:entryFor table "dict.update.loop"=some Builtin.«dict.update.loop»:=entryFor_of_tree (by kernel_rfl)
theorem ky:plainId "dict.update.loop"=true:=by decide +kernel
def ZD (h:Heap) (v key val:Value):Prop:=∃ p o n,v=.ref p/\h.get? p=some o/\o.cls=.type "tuple"/\o.data=.seq #[key,val] n
end
noncomputable def Kq:D->Option Key
 | .int i=>some (.inl i)
 | .str x=>some (.inr x)
 | _=>none
noncomputable def Wu (kvs:List (Key×D)) (k:Key) (d:D):List (Key×D):=if kvs.any (fun p=>decide (p.1=k)) then kvs.map fun p=>if p.1=k then (p.1,d) else p else kvs++[(k,d)]
noncomputable def qba:D->Option (Key×D)
 | .tup [k,v]=>(Kq k).map fun k=>(k,v)
 | _=>none
noncomputable def zf:List D->Option (List (Key×D))
 | []=>some []
 | d::ds=>match qba d,zf ds with
  | some p,some ps=>some (p::ps)
  | _,_=>none
variable {F:Hp}
theorem IsK.any {k:Key}:∀ {kv:List (Key×V)} {ks:List (Key×D)},IsK K F kv ks->(kv.any fun p=>decide (p.1=k))=(ks.any fun p=>decide (p.1=k))
 | _,_,.nil=>rfl
 | _,_,.cons h t=>by rw [cG,cG,IsK.any t]
variable {v:V} {d:D}
theorem IsK.repl {k:Key} (i:Is K F v d):∀ {kv:List (Key×V)} {ks:List (Key×D)},IsK K F kv ks->IsK K F (kv.map fun p=>if p.1=k then (p.1,v) else p) (ks.map fun p=>if p.1=k then (p.1,d) else p)
 | _,_,.nil=>.nil
 | _,_,.cons (k:=k') h t=>by
  rw [aF,aF]
  by_cases e:k'=k
  ·simp only [e,if_true]; exact .cons i (IsK.repl i t)
  ·simp only [e,if_false]; exact .cons h (IsK.repl i t)
theorem IsK.snoc {k:Key} (i:Is K F v d):∀ {kv:List (Key×V)} {ks:List (Key×D)},IsK K F kv ks->IsK K F (kv++[(k,v)]) (ks++[(k,d)])
 | _,_,.nil=>.cons i .nil
 | _,_,.cons h t=>.cons h (IsK.snoc i t)
variable {kv:List (Key×V)}
theorem IsK.put {k:Key} {ks:List (Key×D)} (h:IsK K F kv ks) (i:Is K F v d):IsK K F (Qo kv k v) (Wu ks k d):=by
 unfold Qo Wu
 rw [h.any]
 by_cases e:(ks.any fun p=>decide (p.1=k))=true
 ·rw [if_pos e,if_pos e]; exact IsK.repl i h
 ·rw [if_neg e,if_neg e]; exact IsK.snoc i h
theorem UP:∀ {pv:List (Key×V)} {ps:List (Key×D)} {kv:List (Key×V)} {ks:List (Key×D)},IsK K F pv ps->IsK K F kv ks->IsK K F (pv.foldl (fun l p=>Qo l p.1 p.2) kv) (ps.foldl (fun l p=>Wu l p.1 p.2) ks)
 | _,_,_,_,.nil,h=>h
 | _,_,_,_,.cons i t,h=>by
  rw [ce,ce]
  exact UP t (h.put i)
def qhb (p:Key×V) (q:Key×Value×Value):Prop:=p.1=q.1/\RelV p.2 q.2.2
theorem ZE:∀ {pv:List (Key×V)} {tr:List (Key×Value×Value)} {kv:List (Key×V)} {vs:List (Key×Value)},Paired qhb pv tr->KV kv vs->KV (pv.foldl (fun l p=>Qo l p.1 p.2) kv) (tr.foldl (fun l p=>stored l p.1 p.2.2) vs)
 | _,_,_,_,.nil,h=>h
 | _,_,_,_,.cons r t,h=>by
  rw [ce,ce]
  refine ZE t ?_
  rw [r.1]
  exact h.put _ r.2
theorem UQ:∀ {pv:List (Key×V)} {kv:List (Key×V)},(pv.foldl (fun l p=>Qo l p.1 p.2) kv).length<=kv.length+pv.length
 | [],kv=>ao _
 | p::pv,kv=>by
  have h1:=@UQ pv (Qo kv p.1 p.2)
  have h2:=yj kv p.1 p.2
  rw [ce,aq]
  omega
variable {X:Cx} {pins:List (Addr×Obj)} {σ:St} {H:Hp} {u:Value}
section
theorem xX {k:Key} (i:Is C.K F v d) (r:RelV v u) (e:Kq d=some k):zW k u=true:=by
 cases d with
 | int z=>cases i; cases e; obtain ⟨t,rfl⟩:=r; exact Ks z t
 | str z=>cases i; cases e; obtain ⟨t,rfl⟩:=r; exact Kt z t
 | _=>cases e
theorem UR (hK:C.K=X.K) (I:Inv X pins σ H s) (sb:Same F H):∀ {vs:List V} {us:List Value} {ds:List D} {ps:List (Key×D)},IsL C.K F vs ds->Vals vs us->zf ds=some ps ->
  ∃ (pv:List (Key×V)) (tr:List (Key×Value×Value)),IsK C.K F pv ps/\Paired qhb pv tr/\tr.length=us.length/\pv.length=us.length/\∀ (j:Nat) (p:Key×Value×Value),tr[j]?=some p->∃ v,us[j]?=some v/\zW p.1 p.2.1=true/\ZD s.heap v p.2.1 p.2.2
 | _,_,_,_,.nil,.nil,e=>by cases e; exact ⟨[],[],.nil,.nil,rfl,rfl,fun j p e=>by simp at e⟩
 | _,_,_,_,.cons (d:=d) (ds:=ds) i t,.cons (b:=u) r rs,e=>by
  unfold zf at e
  cases q1:qba d with
  | none=>rw [q1] at e; cases e
  | some kd=>
   cases q2:zf ds with
   | none=>rw [q1,q2] at e; cases e
   | some rest=>
    rw [q1,q2] at e
    cases e
    obtain ⟨pv,tr,h1,h2,h3,h3',h4⟩:=UR hK I sb t rs q2
    unfold qba at q1
    split at q1
    ·rename_i dk dv
     obtain ⟨k,hk,rfl⟩:=aR.mp q1
     cases i with
     | @tup a xs _ hq il=>
      cases il with
      | @cons xk _ xr _ ik il2=>
       cases il2 with
       | @cons xv _ xr2 _ iv il3=>
        cases il3
        cases r
        obtain ⟨its,rv,⟨o,ho,hc,n,hd⟩,_⟩:=I.tuple (show SqT X.K H a [xk,xv] by rw [<-hK]; exact qV sb hq)
        cases rv with
        | @cons _ uk _ _ rk rv2=>
         cases rv2 with
         | @cons _ uv _ _ rv3 rv4=>
          cases rv4
          refine ⟨(k,xv)::pv,(k,uk,uv)::tr,.cons iv h1,.cons ⟨rfl,rv3⟩ h2,by simp [h3],by simp [h3'],fun j p e=>?_⟩
          cases j with
          | zero=>
           simp at e
           subst e
           exact ⟨_,rfl,xX ik rk hk,a,o,n,rfl,ho,hc,hd⟩
          | succ j=>simpa using h4 j p (by simpa using e)
    ·cases q1
noncomputable def qbb (kvs:List (Key×D)) (k:Key):Bool:=kvs.any fun p=>decide (p.1=k)
noncomputable def inA:D->D->Out D
 | x,.dct kvs=>match Kq x with
  | some k=>.ok (.bl (qbb kvs k))
  | none=>.bad
 | x,y=>qfP x y
noncomputable def Jq:D->D->Out D
 | x,.dct kvs=>match Kq x with
  | some k=>.ok (.bl (!qbb kvs k))
  | none=>.bad
 | x,y=>YL x y
theorem US {ks:List (Key×D)} {k:Key} (h:IsK K F kv ks):(VU kv k).isSome=qbb ks k:=by
 rw [<-Jg,h.any]; rfl
theorem qfW {k:Key} (h:TopIs C.K F H v d) (e:Kq d=some k):v=kV k:=by
 cases d with
 | int z=>cases e; exact h.int
 | str z=>cases e; exact h.str.1
 | _=>cases e
theorem qeW (hK:C.K=X.K) (hu:X.A.units+64 < cLine):OpD X C .sh (compareOp .In) inA:=by
 intro pins s σ H x y v u Q I rx ry h
 obtain ⟨F,dx,dy,sb,tx,ty,po⟩:=h
 by_cases hd:∃ kvs,dy=.dct kvs
 ·obtain ⟨kvs,rfl⟩:=hd
  cases q:Kq dx with
  | none=>unfold inA at po; simp only [q] at po; exact po.elim
  | some k=>
   unfold inA at po
   simp only [q] at po
   obtain ⟨a,kv,rfl,hH,ik⟩:=ty.dct sb
   cases ry
   have ex:=qfW tx q
   subst ex
   refine qhK (by omega) I (DGet.k (k:=k) hH) rx fun s' I'=>⟨.bl _,H,I',rfl,?_⟩
   rw [US ik]
   exact po _ F H sb .refl (.bl _)
 ·have e:inA dx dy=qfP dx dy:=by
   cases dy <;> first | rfl | exact absurd ⟨_,rfl⟩ hd
  rw [e] at po
  exact qgz hK hu pins s σ H x y v u Q I rx ry ⟨F,dx,dy,sb,tx,ty,po⟩
theorem yP (hK:C.K=X.K) (hu:X.A.units+64 < cLine):OpD X C .sh (compareOp .NotIn) Jq:=by
 intro pins s σ H x y v u Q I rx ry h
 obtain ⟨F,dx,dy,sb,tx,ty,po⟩:=h
 by_cases hd:∃ kvs,dy=.dct kvs
 ·obtain ⟨kvs,rfl⟩:=hd
  cases q:Kq dx with
  | none=>unfold Jq at po; simp only [q] at po; exact po.elim
  | some k=>
   unfold Jq at po
   simp only [q] at po
   obtain ⟨a,kv,rfl,hH,ik⟩:=ty.dct sb
   cases ry
   have ex:=qfW tx q
   subst ex
   refine qcL (by omega) I (DGet.k (k:=k) hH) rx fun s' I'=>⟨.bl _,H,I',rfl,?_⟩
   rw [US ik]
   exact po _ F H sb .refl (.bl _)
 ·have e:Jq dx dy=YL dx dy:=by
   cases dy <;> first | rfl | exact absurd ⟨_,rfl⟩ hd
  rw [e] at po
  exact qaP hK hu pins s σ H x y v u Q I rx ry ⟨F,dx,dy,sb,tx,ty,po⟩
end
theorem qc9 (t:SetTable) (es:Array (Int×Value)) (h:Int) (x:Value):(layNew t es h x).2.1.led=t.led:=by
 unfold layNew
 cases t.freeSlot h with
 | none=>rfl
 | some p=>
  obtain ⟨sl,wd⟩:=p
  show (dt (t.put sl).1 _).led=t.led
  unfold dt
  split <;> rfl
theorem ZF {t:SetTable} (es:Array (Int×Value)) (h:Int) (x:Value) (e:t.plain=false):(layNew t es h x).2.1.plain=false:=by
 unfold layNew
 cases t.freeSlot h with
 | none=>rfl
 | some p=>
  obtain ⟨sl,wd⟩:=p
  show (dt (t.put sl).1 _).plain=false
  unfold dt
  split
  ·exact e
  ·rfl
theorem qda {m f v:Nat} {l p:Bool} {hs:Array Int} {t:SetTable} {o:Array Nat} (h:fy m f v l p hs=some (t,o)):t.led=l/\t.plain=p:=by
 unfold fy at h
 cases e:SetTable.layClean m hs with
 | none=>
  rw [e] at h
  cases h
 | some ow=>
  rw [e] at h
  have h2:=congrArg Prod.fst (aK.inj h)
  subst h2
  exact ⟨rfl,rfl⟩
theorem Wv (t:SetTable) (es:Array (Int×Value)) (n:Nat):(relayAll t es n).2.1.led=t.led/\(t.plain=false->(relayAll t es n).2.1.plain=false):=by
 unfold relayAll
 cases e:t.relaid (es.map (·.1)) n with
 | none=>exact ⟨rfl,fun _=>rfl⟩
 | some q=>
  obtain ⟨t',o⟩:=q
  have hk:=qda (show fy _ _ _ _ _ _=some (t',o) from e)
  dsimp only
  split
  ·exact ⟨hk.1,fun z=>hk.2.trans z⟩
  ·exact ⟨rfl,fun _=>rfl⟩
noncomputable def vo (ks:List Str) (x:Str):List Str:=if x∈ks then ks else ks++[x]
noncomputable def kg (es:Array (Int×Value)) (ep:Nat) (t:SetTable):Obj:={ cls:=.type "set",dict:=none,data:=.set es ep t,slots:=#[] }
structure SetD (prog:Program) (w:World) (es:Array (Int×Value)) (t:SetTable) (ks:List Str):Prop where
 el:ElemsOf (aZ prog w) es.toList
 perm:(es.toList.map fun e=>strOf e.2).Perm ks
 nd:ks.Nodup
 bd:es.size < scanBound
 fits:t.fits es.size=true
 led:t.led=!(w.params.followText "set-order")
 plain:ks≠[]->t.plain=false
def SetS (prog:Program) (w:World) (h:Heap) (a:Addr) (ks:List Str):Prop:=∃ es ep t,h.get? a=some (kg es ep t)/\SetD prog w es t ks
variable {ks:List Str} {y:Str} {es:Array (Int×Value)} {h:Heap} {a:Addr} {ep:Nat}
section
theorem ZG {l:List (Int×Value)} (h:ElemsOf (aZ prog w) l) {e:Int×Value} (he:e∈l):∃ x t,e.2=.str x t:=by
 obtain ⟨⟨k,hk,_⟩,_⟩:=h e he
 obtain ⟨t,ht⟩:=Value.isStrOf_shape hk
 exact ⟨k,t,ht⟩
theorem isS {t:Tok}:(aZ prog w).is x (.str y t)=decide (x=y):=by
 have h:(aZ prog w).is y (.str y t)=true:=by
  show ei y (.str y t)=true
  simp [ei]
 exact KeyKind.is_eq_decide h x
theorem SetD.mem {t:SetTable} (h:SetD prog w es t ks):x∈ks↔∃ e∈es.toList,(aZ prog w).is x e.2=true:=by
 rw [<-h.perm.mem_iff,ay]
 constructor
 ·rintro ⟨e,he,z⟩
  obtain ⟨y,t,hy⟩:=ZG h.el he
  refine ⟨e,he,?_⟩
  rw [hy] at z ⊢
  rw [isS]
  exact decide_eq_true z.symm
 ·rintro ⟨e,he,z⟩
  obtain ⟨y,t,hy⟩:=ZG h.el he
  refine ⟨e,he,?_⟩
  rw [hy] at z ⊢
  rw [isS] at z
  exact (of_decide_eq_true z).symm
theorem SetD.size {t:SetTable} (h:SetD prog w es t ks):es.size=ks.length:=by
 have e:=h.perm.length_eq
 simpa using e
theorem qb7 {es':Array (Int×Value)} {t t':SetTable} (ho:h.get? a=some (kg es ep t)):(h.update a (fA es' t')).get? a=some (kg es' (ep+1) t'):=by
 have e:=bb (fA es' t') ho (by rw [putSet_of (o:=kg es ep t) es' t' rfl]; rfl)
 rw [putSet_of (o:=kg es ep t) es' t' rfl] at e
 exact e
theorem SetD.more {es1:Array (Int×Value)} {t t1:SetTable} {tk:Tok} (h:SetD prog w es t ks) (nx:x∉ks) (hr:ks.length+1 < scanBound)
  (hp:es1.toList.Perm (es.toList++[((aZ prog w).hash x,.str x tk)])) (hf:t1.fits es1.size=true) (hl:t1.led=t.led) (hq:t1.plain=false):SetD prog w es1 t1 (vo ks x):=by
 have ex:vo ks x=ks++[x]:=if_neg nx
 have hz:es1.size=ks.length+1:=by
  rw [<-bz,hp.length_eq,af,bz,h.size]
  rfl
 rw [ex]
 refine ⟨(h.el.push (by rw [isS]; exact decide_eq_true rfl) rfl).perm hp,?_,?_,?_,hf,hl.trans h.led,fun _=>hq⟩
 ·refine (hp.map _).trans ?_
  rw [dO]
  exact h.perm.append (ck _)
 ·exact c8.mpr ⟨h.nd,by simp,fun a ha b hb=>by rw [ax.mp hb]; exact fun z=>nx (z ▸ ha)⟩
 ·rw [hz]
  exact hr
theorem qdb {x:Str} {tk:Tok} {Q:Bool->Shared->Prop} (hS:SetS prog w s.heap a ks) (hr:ks.length+1 < scanBound)
  (h:∀ h' b,bD a s.heap h'->SetS prog w h' a (vo ks x)->Q b { s with heap:=h' }):wpAny (model prog w) A (setAddHashed a (.str x tk) ((aZ prog w).hash x)) Q E s:=by
 obtain ⟨es,ep,t,ho,d⟩:=hS
 have hk:(aZ prog w).is x (.str x tk)=true:=by rw [isS]; exact decide_eq_true rfl
 unfold setAddHashed setAddHashedIn
 refine wpAny_holding (wpAny_bind (wpAny_setState_of ho rfl d.fits ?_))
 dsimp only
 rw [byScan_of rfl d.bd d.el,if_pos rfl]
 unfold setAddByScan
 refine wpAny_bind (wpAny_bind (wpAny_rule (wpAny_bind (wpAny_setScan_of hk ho rfl d.fits d.el ?_))))
 cases hq:es.toList.findIdx? (fun e=>(aZ prog w).is x e.2) with
 | some j=>
  obtain ⟨hj,hp,_⟩:=List.findIdx?_eq_some_iff_getElem.mp hq
  have hx:x∈ks:=d.mem.mpr ⟨_,ci hj,hp⟩
  have q:=h s.heap false (Heap.SameBut.refl a s.heap) ⟨es,ep,t,ho,by rw [show vo ks x=ks from if_pos hx]; exact d⟩
  dsimp only
  exact wpAny_pure (wpAny_pure q)
 | none=>
  have hx:x∉ks:=fun z=>by
   obtain ⟨e,he,q⟩:=d.mem.mp z
   have:=List.findIdx?_eq_none_iff.mp hq e he
   rw [q] at this
   cases this
  dsimp only
  have hp:=layNew_perm t es ((aZ prog w).hash x) (.str x tk)
  have hf:=layNew_fits t es ((aZ prog w).hash x) (.str x tk)
  have hl:=qc9 t es ((aZ prog w).hash x) (.str x tk)
  have hn:=fun e=>ZF (t:=t) es ((aZ prog w).hash x) (.str x tk) e
  generalize layNew t es ((aZ prog w).hash x) (.str x tk)=L at hp hf hl hn ⊢
  obtain ⟨es1,t1,wd,gv⟩:=L
  dsimp only at hp hf hl hn ⊢
  rw [Array.toList_push] at hp
  have tail:∀ t2:SetTable,t2.fits es1.size=true->t2.led=t.led->t2.plain=false->wpAny (model prog w) A (do
    storeSet a es1 t2
    if (!wd&&t2.tooFull)=true then do
      (match (relayAll t2 es1 (cO es1.size)).2.2 with | true=>rule "set.scan.the-table-gave-way" | false=>pure ())
      storeSet a (relayAll t2 es1 (cO es1.size)).1 (relayAll t2 es1 (cO es1.size)).2.1
      pure (some true)
     else pure (some true)) (fun r s'=>∃ h',s'={ s with heap:=h' }/\r=some true/\bD a s.heap h'/\SetS prog w h' a (vo ks x)) E s:=by
   intro t2 f2 l2 p2
   have d2:=d.more hx hr hp f2 l2 p2
   refine wpAny_bind (wpAny_storeSet_of ho rfl ?_ (fits_of_scanBound d2.bd))
   have ho1:=qb7 (es':=es1) (t':=t2) ho
   have sb:=bA s.heap a (fA es1 t2)
   split
   ·have rp:=relayAll_perm t2 es1 (cO es1.size)
    have rf:=relayAll_fits t2 es1 (cO es1.size)
    have rk:=Wv t2 es1 (cO es1.size)
    generalize relayAll t2 es1 (cO es1.size)=R at rp rf rk ⊢
    obtain ⟨es2,t3,g2⟩:=R
    dsimp only at rp rf rk ⊢
    have d3:=d.more hx hr (rp.trans hp) rf (rk.1.trans l2) (rk.2 p2)
    refine wpAny_bind ?_
    have go:wpAny (model prog w) A (storeSet a es2 t3 >>= fun _=>pure (some true)) (fun r s'=>∃ h',s'={ s with heap:=h' }/\r=some true/\bD a s.heap h'/\SetS prog w h' a (vo ks x)) E { s with heap:=s.heap.update a (fA es1 t2) }:=
     wpAny_bind (wpAny_storeSet_of ho1 rfl (wpAny_pure ⟨_,rfl,rfl,sb.trans (bA _ a _),es2,_,t3,qb7 ho1,d3⟩) (fits_of_scanBound d3.bd))
    cases g2
    ·exact wpAny_pure go
    ·exact wpAny_rule go
   ·exact wpAny_pure ⟨_,rfl,rfl,sb,es1,_,t2,ho1,d2⟩
  have fin:∀ (r:Option Bool) (s':Shared),(∃ h',s'={ s with heap:=h' }/\r=some true/\bD a s.heap h'/\SetS prog w h' a (vo ks x)) ->
    wpAny (model prog w) A (match r with | some added=>pure added | none=>setAddHashedIn a (.str x tk) ((aZ prog w).hash x) 99999) Q E s':=by
   rintro r s' ⟨h',rfl,rfl,sb,hS⟩
   exact wpAny_pure (h h' true sb hS)
  have gw:∀ (b:Bool) {s₁:Shared} {Q':Unit->Shared->Prop},Q' () s₁->wpAny (model prog w) A (match b with | true=>rule "set.scan.the-table-gave-way" | false=>pure ()) Q' E s₁:=fun b s₁ Q' q=>by
   cases b
   ·exact wpAny_pure q
   ·exact wpAny_rule q
  refine wpAny_bind (gw _ ?_)
  cases e1:t1.plain with
  | true=>
   rw [if_pos rfl,hashByValue_scannable 8 (x:=.str x tk) rfl]
   refine wpAny_bind (wpAny_pure ?_)
   show wpAny _ _ (storeSet a es1 { t1 with plain:=false } >>= _) _ _ _
   exact wpAny_mono (tail { t1 with plain:=false } (SetTable.fits_plain_off hf) hl rfl) fin fun _ _ z=>z
  | false=>
   rw [if_neg (by simp)]
   refine wpAny_bind (wpAny_pure ?_)
   show wpAny _ _ (storeSet a es1 t1 >>= _) _ _ _
   exact wpAny_mono (tail t1 hf hl e1) fin fun _ _ z=>z
end
theorem qbc (ks:List Str) (x:Str):(vo ks x).length<=ks.length+1:=by
 unfold vo
 split
 ·omega
 ·rw [af]
  exact ao _
theorem yQ:∀ (l ks:List Str),(l.foldl vo ks).length<=ks.length+l.length
 | [],ks=>ao _
 | x::l,ks=>by
  have h1:=yQ l (vo ks x)
  have h2:=qbc ks x
  rw [ce,aq]
  omega
variable {h':Heap}
theorem SetS.at (hS:SetS prog w h a ks) (k:∀ o,h.get? a=some o->h'.get? a=some o):SetS prog w h' a ks:=
 let ⟨es,ep,t,ho,d⟩:=hS; ⟨es,ep,t,k _ ho,d⟩
variable {n:Nat}
section
variable {R:Result->Shared->Prop} {I:Addr} {fp wr:List Addr} {P:Nat->Value->Prop} {St:Nat->Shared->Prop}
theorem UT {G:Array GenState->Array GenState->Prop} (W:WalksS prog w A.in1 I fp wr G n P St) (S:Addr) (hSf:S∉fp) (ss:List Str) (hn:ss.length=n) (hv:∀ i v,P i v->∃ x t,ss[i]?=some x/\v=.str x t) (hb:n+1 < scanBound) :
  ∀ (k i:Nat) (s:Shared),n - i=k->i<=n->St i s->SetS prog w s.heap S ((ss.take i).foldl vo []) ->
   (∀ s',Moved (S::wr) G s s'->SetS prog w s'.heap S (ss.foldl vo [])->R (.ok (.ret .none)) s')->codeAny (model prog w) A (.builtin "set.update.loop" ⟨[.ref S,.ref I],[]⟩) R s:=by
 have nw:S∉wr:=fun h=>hSf (W.sub _ h)
 have up:∀ b∈wr,b∈S::wr:=fun b hb=>ae _ hb
 intro k
 induction k with
 | zero=>
  intro i s hk hi hst hS hR
  have hin:i=n:=by omega
  subst hin
  refine codeAny_builtin F.entry_set_update_loop ?_
  rw [bn dA _]; show wpAny _ A.in1 (pyNext (.ref I) >>= _) _ _ s
  refine wpAny_bind (W.done s _ _ hst fun s' hm=>wpAny_pure (hR s' (hm.mono up) ?_))
  rw [List.take_of_length_le (dQ hn)] at hS
  exact hS.at fun o e=>hm.heap S o nw e
 | succ k ih=>
  intro i s hk hi hst hS hR
  have hlt:i < n:=by omega
  refine codeAny_builtin F.entry_set_update_loop ?_
  rw [bn dA _]; show wpAny _ A.in1 (pyNext (.ref I) >>= _) _ _ s
  refine wpAny_bind (W.item i s _ _ hlt hst fun v s' hP hst' hm=>?_)
  obtain ⟨x,t,hx,rfl⟩:=hv i v hP
  have hS':SetS prog w s'.heap S ((ss.take i).foldl vo []):=hS.at fun o e=>hm.heap S o nw e
  show wpAny _ A.in1 (holding [dS x t] (setAdd S (.str x t)) >>= _) _ _ s'
  refine wpAny_bind (wpAny_holding ?_)
  unfold setAdd
  refine wpAny_holding (wpAny_bind ((aZ prog w).pyHash (k:=x) (by rw [isS]; exact decide_eq_true rfl) ?_))
  have hroom:((ss.take i).foldl vo []).length+1 < scanBound:=by
   have h1:=yQ (ss.take i) []
   rw [eG,bq] at h1
   omega
  refine qdb (s:={ s' with toks:=s'.toks+1 }) hS' hroom fun h' b sb hS2=>?_
  have e2:vo ((ss.take i).foldl vo []) x=(ss.take (i+1)).foldl vo []:=by
   rw [List.take_add_one,hx,List.foldl_append]
   rfl
  rw [e2] at hS2
  refine wpAny_pure ⟨plainId_quiet dA _,ih (i+1) _ (by omega) hlt (W.frame _ s' _ _ hst' (d6 _) fun b hb o e=>?_) hS2 fun s'' hm'' hS''=>?_⟩
  ·rw [sb.2 b fun z:b=S=>hSf (z ▸ hb)]
   exact e
  ·refine hR s'' (Moved.trans W.gtrans ((hm.mono up).then_heap (d6 _) fun b o hb e=>?_) hm'') hS''
   rw [sb.2 b fun z:b=S=>hb (z ▸ aw)]
   exact e
end
variable {ss:List Str} {i:Nat} {items:Array Value}
section
abbrev qeX (w:World):Obj:=kg #[] 0 (.fresh 0 0 (!(w.params.followText "set-order")))
theorem Vf (e:h.get? a=some (qeX w)):SetS prog w h a []:=
 ⟨_,_,_,e,⟨fun e he=>by simp at he,by simp,cP,by decide,by rfl,rfl,fun z=>absurd rfl z⟩⟩
theorem qdc (a:Value) {Q₁:Value->Shared->Prop} (h:Q₁ (.ref s.heap.objs.size) { s with heap:=s.heap.push (qeX w) }) :
  codeAny (model prog w) A (.call (.builtin "set.__new__") ⟨[.type "set",a],[]⟩) (wants Q₁ E) s:=by
 refine codeAny_of_tree ?_; show wpAny _ A.in1 (do checkBuiltinCall "set.__new__" ⟨[.type "set",a],[]⟩; again (.builtin "set.__new__" ⟨[.type "set",a],[]⟩)) _ _ s
 refine wpAny_bind (wpAny_of_eq (PySem.F.newCall_set_1 a) (wpAny_pure ⟨plainId_quiet PySem.F.plain_set_new _,codeAny_builtin PySem.F.entry_set_new ?_⟩)); rw [bn PySem.F.plain_set_new _]
 unfold Builtin.«set.__new__» Builtin.Frozenset.newClass; have hsub:=sub_set_self; obtain ⟨hp,g,d,tk,os⟩:=s; dsimp only; wp_walk
 refine wpAny_askSetting (wpAny_pure ?_); dsimp only; simp only [newObj]
 exact wpAny_bind (wpAny_alloc (wpAny_pure (wpAny_pure h)))
theorem Ww:isSubtype (.type "tuple") (.type "set")=pure false:=by rw [isSubtype_type]; kernel_rfl
theorem Qt:isSubtype (.type "tuple") (.type "frozenset")=pure false:=by rw [isSubtype_type]; kernel_rfl
theorem ZH {vs:List Value} (h:StrsAre vs ss) {v:Value} (e:vs[i]?=some v):∃ x t,ss[i]?=some x/\v=.str x t:=by
 obtain ⟨y,t,e1,e2⟩:=h.item i v e
 exact ⟨y,t,e2,e1⟩
theorem qbd {S l:Addr} {Q:Unit->Shared->Prop} (hh:A.handled=none) (hS:SetS prog w s.heap S []) (hl:s.heap.IsList l items) (hi:StrsAre items.toList ss) (hb:items.size+1 < scanBound) (hne:l≠S)
  (h:∀ h' tk,SetS prog w h' S (ss.foldl vo [])->(∀ b o,b≠S->s.heap.get? b=some o->h'.get? b=some o)->Q () { s with heap:=h',toks:=tk }) :
  wpAny (model prog w) A (br "set.__init__" S (.ref l)) Q E s:=by
 have hT:s.TypeIs (.ref l) "list":=let ⟨o,e,c,_⟩:=hl; ⟨o,e,c⟩
 unfold br
 refine wpAny_bind (m:=cm _) ?_
 unfold cm
 refine wpAny_bind (wpAny_isInstance hT PySem.F.sub_list_set ?_)
 refine wpAny_isInstance hT PySem.F.sub_list_frozenset ?_
 rw [if_neg (by decide)]
 refine wpAny_bind (wpAny_typeOf hT ?_)
 rw [if_neg (by decide)]
 refine wpAny_bind (wpAny_pyIter_list hl ?_)
 have hz:s.heap.objs.size≠S:=fun z=>by
  obtain ⟨es,ep,t,ho,_⟩:=hS
  exact bG _ (z ▸ am ho)
 have hzl:l≠s.heap.objs.size:=by
  obtain ⟨o,e,_⟩:=hl
  exact aA (am e)
 refine wpAny_bind (wpAny_runValue (UT ((Walks.list (A:=A.in1) hh _ l hzl items).toS) S ?_ ss (by rw [<-hi.length]; simp) (fun i v e=>ZH hi (by rw [aU]; exact e)) hb items.size 0 _ (by omega) (bB _) ⟨⟨_,ah _ rfl,rfl,rfl⟩,hl.push _⟩ ?_ ?_))
 ·intro z
  rcases ac.mp z with z | z
  ·exact hz z.symm
  ·exact hne (ax.mp z).symm
 ·exact hS.at fun o e=>aa _ e
 ·intro s' hm hS'
  obtain ⟨h',g',d',tk',os'⟩:=s'
  have eg:g'=s.gens:=hm.gens
  have ed:d'=s.drawn:=hm.drawn
  have eo:os'=s.os:=hm.os
  subst eg ed eo
  refine wpAny_pure (h h' tk' hS' fun b o hb e=>hm.heap b o ?_ (aa _ e))
  intro z
  rcases ac.mp z with z | z
  ·exact hb z
  ·rw [ax.mp z] at e
   exact bG _ (am e)
theorem ZI {S l:Addr} {Q:Unit->Shared->Prop} (hh:A.handled=none) (hS:SetS prog w s.heap S []) (hl:s.heap.IsTuple l items) (hi:StrsAre items.toList ss) (hb:items.size+1 < scanBound) (hne:l≠S)
  (h:∀ h' tk,SetS prog w h' S (ss.foldl vo [])->(∀ b o,b≠S->s.heap.get? b=some o->h'.get? b=some o)->Q () { s with heap:=h',toks:=tk }) :
  wpAny (model prog w) A (br "set.__init__" S (.ref l)) Q E s:=by
 have hT:s.TypeIs (.ref l) "tuple":=let ⟨o,e,c,_⟩:=hl; ⟨o,e,c⟩
 unfold br
 refine wpAny_bind (m:=cm _) ?_
 unfold cm
 refine wpAny_bind (wpAny_isInstance hT Ww ?_)
 refine wpAny_isInstance hT Qt ?_
 rw [if_neg (by decide)]
 refine wpAny_bind (wpAny_typeOf hT ?_)
 rw [if_neg (by decide)]
 refine wpAny_bind (wpAny_pyIter_tuple hl ?_)
 have hz:s.heap.objs.size≠S:=fun z=>by
  obtain ⟨es,ep,t,ho,_⟩:=hS
  exact bG _ (z ▸ am ho)
 have hzl:l≠s.heap.objs.size:=by
  obtain ⟨o,e,_⟩:=hl
  exact aA (am e)
 refine wpAny_bind (wpAny_runValue (UT ((Walks.tuple (A:=A.in1) hh _ l hzl items).toS) S ?_ ss (by rw [<-hi.length]; simp) (fun i v e=>ZH hi (by rw [aU]; exact e)) hb items.size 0 _ (by omega) (bB _) ⟨⟨_,ah _ rfl,rfl,rfl⟩,?_⟩ ?_ ?_))
 ·intro z
  rcases ac.mp z with z | z
  ·exact hz z.symm
  ·exact hne (ax.mp z).symm
 ·obtain ⟨o,e,c⟩:=hl
  exact ⟨o,aa _ e,c⟩
 ·exact hS.at fun o e=>aa _ e
 ·intro s' hm hS'
  obtain ⟨h',g',d',tk',os'⟩:=s'
  have eg:g'=s.gens:=hm.gens
  have ed:d'=s.drawn:=hm.drawn
  have eo:os'=s.os:=hm.os
  subst eg ed eo
  refine wpAny_pure (h h' tk' hS' fun b o hb e=>hm.heap b o ?_ (aa _ e))
  intro z
  rcases ac.mp z with z | z
  ·exact hb z
  ·rw [ax.mp z] at e
   exact bG _ (am e)
set_option maxHeartbeats 3200000 in
theorem Vg {l:Addr} {ks:List Str} {Q:Value->Shared->Prop}
  (hup:∀ (A1:Around) (Q1:Unit->Shared->Prop) (E1:Value->Shared->Prop),A1.handled=A.handled->(∀ h' tk,SetS prog w h' s.heap.objs.size ks->(∀ b o,s.heap.get? b=some o->h'.get? b=some o)->Q1 () { s with heap:=h',toks:=tk }) ->
   wpAny (model prog w) A1 (br "set.__init__" s.heap.objs.size (.ref l)) Q1 E1 { s with heap:=s.heap.push (qeX w) })
  (h:∀ h' tk,SetS prog w h' s.heap.objs.size ks->(∀ b o,s.heap.get? b=some o->h'.get? b=some o)->Q (.ref s.heap.objs.size) { s with heap:=h',toks:=tk }) :
  wpAny (model prog w) A (call (.type "set") [.ref l]) Q E s:=by
 have hnew:∀ {Q₁:Value->Shared->Prop},Q₁ (.ref s.heap.objs.size) { s with heap:=s.heap.push (qeX w) }->codeAny (model prog w) A.in1 (.call (.builtin "set.__new__") ⟨[.type "set",.ref l],[]⟩) (wants Q₁ E) s:=fun h=>qdc (.ref l) h
 unfold qeX kg at hnew hup
 generalize (!(w.params.followText "set-order"))=led at hnew hup
 obtain ⟨c,tl,hmro⟩:=bE.mro
 have hmade:=bE.made
 have hsub:=bE.sub
 refine wpAny_call (codeAny_of_tree ?_); show wpAny _ _ (callAny (.type "set") _) _ _ _
 refine wpAny_pure ⟨Code.quiet_builtin _ (by decide +kernel),codeAny_builtin PySem.F.entry_type_call ?_⟩; rw [Around.under_plain (weight_type_call_type "set" [.ref l] []) rfl]
 have h1:=bE.notType
 have h2:=bE.canCreate
 have hct:=PySem.F.typeCall_set_1 (.ref l)
 repeat (any_goals (first | assumption | wp_step))
 refine codeAny_mono (hnew (Q₁:=fun obj s₁=>obj=.ref s.heap.objs.size/\s₁={ s with heap:=s.heap.push { cls:=.type "set",dict:=none,data:=.set #[] 0 (.fresh 0 0 led) } }) ⟨rfl,rfl⟩) fun r s₁ hr=>?_
 cases r with
 | error e=>exact hr
 | ok fl=>
  cases fl with
  | ret obj=>
   obtain ⟨rfl,rfl⟩:=hr
   have hS:(s.heap.push { cls:=.type "set",dict:=none,data:=.set #[] 0 (.fresh 0 0 led) }).get? s.heap.objs.size=some { cls:=.type "set",dict:=none,data:=.set #[] 0 (.fresh 0 0 led) }:=ah _ rfl
   have hT:et { s with heap:=s.heap.push { cls:=.type "set",dict:=none,data:=.set #[] 0 (.fresh 0 0 led) } } (.ref s.heap.objs.size) "set":=⟨_,hS,rfl⟩
   have hli:=bE.init.lookup
   have hbi:=bE.init.bind (.ref s.heap.objs.size)
   repeat (any_goals (first | assumption | wp_step))
   refine codeAny_mono (codeAny_call_builtin (R:=wants (fun r s₂=>r=.none/\∃ h' tk,s₂={ s with heap:=h',toks:=tk }/\SetS prog w h' s.heap.objs.size ks/\(∀ b o,s.heap.get? b=some o->h'.get? b=some o)) E) bE.init.plain PySem.F.entry_set_init (check_set_init_1 hT ?_)) fun r₂ s₂ hr₂=>?_
   ·unfold Builtin.«set.__init__» noKeywords
    generalize hU:br=U
    wp_walk
    subst hU
    refine hup _ _ _ rfl fun h' tk hS' hk=>?_
    exact wpAny_pure ⟨rfl,h',tk,rfl,hS',hk⟩
   ·cases r₂ with
    | error e=>exact hr₂
    | ok fl₂=>
     cases fl₂ with
     | ret r=>
      obtain ⟨rfl,h',tk,rfl,hS',hk'⟩:=hr₂
      repeat (any_goals (first | assumption | wp_step))
      exact h _ _ hS' hk'
     | _=>exact hr₂.elim
  | _=>exact hr.elim
end
theorem xw {α:Type}:∀ {xs:List α} {i:Nat} (h:i < xs.length),(xs[i]::xs.eraseIdx i).Perm xs
 | [],_,h=>absurd h (Nat.not_lt_zero _)
 | x::xs,0,h=>ck _
 | x::xs,i+1,h=>(List.Perm.swap _ _ _).trans ((xw (xs:=xs) (i:=i) (Nat.lt_of_succ_lt_succ h)).cons x)
variable {M:Model}
theorem YS {src:Source} {Q:Nat->Shared->Prop} (hn:n≠0) (h:∀ i d',i < n->Q i { s with drawn:=d' }):wpAny M A (choose src n) Q E s:=
 fun _ _ _=>⟨hn,h _ _ (Nat.mod_lt _ (Nat.pos_of_ne_zero hn))⟩
variable {α:Type}
theorem ZJ:∀ (n:Nat) (xs:List α) (s:Shared) {Q:List α->Shared->Prop},n=xs.length->(∀ ys d',ys.Perm xs->Q ys { s with drawn:=d' })->wpAny M A (drawOrder n xs) Q E s
 | 0,xs,s,Q,hn,h=>by
  cases xs with
  | nil=>exact wpAny_pure (h [] s.drawn (ck _))
  | cons x l=>cases hn
 | n+1,[],s,Q,hn,h=>by cases hn
 | n+1,x::l,s,Q,hn,h=>by
  show wpAny M A (choose .order (x::l).length >>= _) Q E s
  refine wpAny_bind (YS (by simp) fun i d' hi=>?_)
  have e:(x::l)[i]?=some (x::l)[i]:=aG hi
  rw [e]
  refine wpAny_bind (ZJ n _ _ (by rw [List.length_eraseIdx_of_lt hi]; simp only [aq] at hn ⊢; omega) fun ys d2 hp=>wpAny_pure (h _ d2 ?_))
  exact (hp.cons _).trans (xw hi)
theorem ZK (next:Nat->Nat):∀ (f k:Nat) (left:List α) (out:Array α),f=left.length->(pickOrder.go next f k left out).toList.Perm (out.toList++left)
 | 0,k,left,out,hf=>by
  cases left with
  | nil=>
   rw [bf]
   exact ck _
  | cons x l=>cases hf
 | f+1,k,left,out,hf=>by
  have hlt:next k % left.length < left.length:=Nat.mod_lt _ (by omega)
  have e:left[next k % left.length]?=some left[next k % left.length]:=aG hlt
  unfold pickOrder.go
  rw [e]
  refine (ZK next f (k+1) _ _ (by rw [List.length_eraseIdx_of_lt hlt]; omega)).trans ?_
  rw [Array.toList_push,aI]
  exact List.Perm.append_left _ (xw hlt)
theorem gp (next:Nat->Nat) (xs:Array α):(pickOrder next xs).toList.Perm xs.toList:=by
 unfold pickOrder
 exact ZK next _ _ _ _ (by simp)
noncomputable def uj (first:Value) (i:Nat) (a:Addr) (n ep:Nat):Obj:={ cls:=.type "set_iterator",data:=.fields #[first,rawInt i,.ref a,rawInt n,rawInt ep] }
theorem slot_si_next:Slot "set_iterator" "__next__" "set_iterator.__next__":=
 .of (owner := "set_iterator") (n := "__next__") (by rw [typeLookup_type,builtinLookup_eq_fast]; kernel_rfl) (by decide +kernel) (by decide +kernel) (by decide +kernel) (by first | exact .inl (by decide +kernel) | exact .inr (by decide +kernel)) (by rw [isSubtype_type]; kernel_rfl)
theorem zg:Slot "set_iterator" "__iter__" "set_iterator.__iter__":=
 .of (owner := "set_iterator") (n := "__iter__") (by rw [typeLookup_type,builtinLookup_eq_fast]; kernel_rfl) (by decide +kernel) (by decide +kernel) (by decide +kernel) (by first | exact .inl (by decide +kernel) | exact .inr (by decide +kernel)) (by rw [isSubtype_type]; kernel_rfl)
theorem vy (a:Value):argsOk "set_iterator.__next__" ⟨[a],[]⟩:=by unfold argsOk; kernel_rfl
theorem Vh (a:Value):argsOk "set_iterator.__iter__" ⟨[a],[]⟩:=by unfold argsOk; kernel_rfl
theorem kP:entryFor table "set_iterator.__next__"=some Builtin.«set_iterator.__next__»:=entryFor_of_tree (by kernel_rfl)
theorem Jr:entryFor table "set_iterator.__iter__"=some Builtin.«dict_keyiterator.__iter__»:=entryFor_alias (id' := "dict_keyiterator.__iter__") (by kernel_rfl) rfl (by decide +kernel) (by kernel_rfl)
theorem Vi:entryFor table "set.__iter__"=some Builtin.«frozenset.__iter__»:=entryFor_alias (id' := "frozenset.__iter__") (by kernel_rfl) rfl (by decide +kernel) (by kernel_rfl)
variable {p it:Addr} {b:Bool} {ps:List Nat}
section
theorem vi (hb:w.params.followText "set-order"=b):({ program:=(model prog w).prog,params:=(model prog w).w.params }:Setting).params.followText "set-order"=b:=hb
theorem Vj {sl nx:Nat} {t:SetTable} {x:Value} {Q:Option Value->Shared->Prop} (hi:s.heap.get? it=some (uj (rawInt sl) i a n ep)) (ha:s.heap.get? a=some (kg es ep t)) (hf:t.fits es.size=true) (hz:es.size=n)
  (hn:∀ (A1:Around) (Q1:Option (Value×Nat)->Shared->Prop) (E1:Value->Shared->Prop),Q1 (some (x,nx)) s->wpAny (model prog w) A1 (setNext a sl i ep) Q1 E1 s)
  (hQ:∀ h',h'.get? it=some (uj (rawInt nx) (i+1) a n ep)->bD it s.heap h'->Q (some x) { s with heap:=h' }):wpAny (model prog w) A (pyNext (.ref it)) Q E s:=by
 have hT:s.TypeIs (.ref it) "set_iterator":=⟨_,hi,rfl⟩
 unfold pyNext
 refine wpAny_bind (wpAny_attempt (wpAny_callSpecial?_slot (name:=aJ "__next__") hT slot_si_next (wpAny_call_entry slot_si_next hT kP ?_ (vy _))))
 show wpAny _ _ (fieldsOf (.ref it) >>= _) _ _ s
 refine wpAny_bind (wpAny_fieldsOf hi rfl ?_)
 show wpAny _ _ (setEntries a >>= _) _ _ s
 refine wpAny_bind (wpAny_setEntries_of ha rfl hf ?_)
 rw [if_neg (by rw [hz]; simp)]
 show wpAny _ _ (setNext a sl i ep >>= _) _ _ s
 refine wpAny_bind (hn _ _ _ ?_)
 show wpAny _ _ (setField (.ref it) 0 (rawInt nx) >>= _) _ _ s
 refine wpAny_bind (wpAny_setField hi rfl (by simp) ?_)
 have h1:(s.heap.update it (Obj.mapFields (·.setIfInBounds 0 (rawInt nx)))).get? it=some (uj (rawInt nx) i a n ep):=bb _ hi rfl
 refine wpAny_bind (wpAny_setField h1 rfl (by simp) (wpAny_pure ⟨x,rfl,wpAny_pure (hQ _ ?_ ((bA ..).trans (bA ..)))⟩))
 exact bb _ h1 rfl
theorem Vk {sl:Nat} {t:SetTable} {Q:Option Value->Shared->Prop} (hh:A.handled=none) (hi:s.heap.get? it=some (uj (rawInt sl) i a n ep)) (ha:s.heap.get? a=some (kg es ep t)) (hf:t.fits es.size=true) (hz:es.size=n)
  (hn:∀ (A1:Around) (Q1:Option (Value×Nat)->Shared->Prop) (E1:Value->Shared->Prop),Q1 none s->wpAny (model prog w) A1 (setNext a sl i ep) Q1 E1 s)
  (hQ:∀ h',Heap.ExtBut it s.heap h'->Q none { s with heap:=h' }):wpAny (model prog w) A (pyNext (.ref it)) Q E s:=by
 have hT:s.TypeIs (.ref it) "set_iterator":=⟨_,hi,rfl⟩
 unfold pyNext
 refine wpAny_bind (wpAny_attempt (wpAny_callSpecial?_slot (name:=aJ "__next__") hT slot_si_next (wpAny_call_entry slot_si_next hT kP ?_ (vy _))))
 show wpAny _ _ (fieldsOf (.ref it) >>= _) _ _ s
 refine wpAny_bind (wpAny_fieldsOf hi rfl ?_)
 show wpAny _ _ (setEntries a >>= _) _ _ s
 refine wpAny_bind (wpAny_setEntries_of ha rfl hf ?_)
 rw [if_neg (by rw [hz]; simp)]
 show wpAny _ _ (setNext a sl i ep >>= _) _ _ s
 refine wpAny_bind (hn _ _ _ ?_)
 show wpAny _ _ (setField (.ref it) 2 cC >>= _) _ _ s
 refine wpAny_bind (wpAny_setField hi rfl (by simp) ?_); show wpAny _ _ (newExc (.type "StopIteration") [] >>= _) _ _ _
 refine wpAny_bind ?_; simp only [newExc,newTuple]; refine wpAny_bind (wpAny_newObj_type ?_ (by size_fits))
 refine wpAny_bind (m:=firstArgMember _ _) (wpAny_of_eq (a:=cC) (by first | rfl | (simp only [firstArgMember]; rfl)) ?_); refine wpAny_newObj_type ?_ (by size_fits); simp only [raiseNew]
 refine wpAny_bind (wpAny_handled ?_); first | rw [show A.in1.handled=none from hh] | rw [hh]
 refine wpAny_bind (wpAny_pure (wpAny_throw ?_)); refine wpAny_bind (wpAny_isInstance (T := "StopIteration") (b:=true) ⟨_,ah _ rfl,rfl⟩ isSubtype_stop ?_)
 exact wpAny_pure (hQ _ (((bA ..).extBut.push _).push _))
theorem YT {pl m:Nat} {t:SetTable} {hx:Int} {x:Value} {ps:Array Value} {Q:Option Value->Shared->Prop} (hi:s.heap.get? it=some (uj (.ref p) i a n ep)) (ha:s.heap.get? a=some (kg es ep t)) (hf:t.fits es.size=true) (hz:es.size=n)
  (hp:s.heap.get? p=some { cls:=.type "tuple",data:=.seq ps m }) (hpl:ps[i]?=some (rawInt pl)) (hx:es[pl]?=some (hx,x))
  (hQ:∀ h',h'.get? it=some (uj (.ref p) (i+1) a n ep)->bD it s.heap h'->Q (some x) { s with heap:=h' }):wpAny (model prog w) A (pyNext (.ref it)) Q E s:=by
 have hT:s.TypeIs (.ref it) "set_iterator":=⟨_,hi,rfl⟩
 unfold pyNext
 refine wpAny_bind (wpAny_attempt (wpAny_callSpecial?_slot (name:=aJ "__next__") hT slot_si_next (wpAny_call_entry slot_si_next hT kP ?_ (vy _))))
 show wpAny _ _ (fieldsOf (.ref it) >>= _) _ _ s
 refine wpAny_bind (wpAny_fieldsOf hi rfl ?_)
 show wpAny _ _ (setEntries a >>= _) _ _ s
 refine wpAny_bind (wpAny_setEntries_of ha rfl hf ?_)
 rw [if_neg (by rw [hz]; simp)]
 show wpAny _ _ (seqItems? (.ref p) >>= _) _ _ s
 refine wpAny_bind (wpAny_seqItems hp rfl ?_)
 dsimp only
 rw [show ps[Int.toNat (i:Int)]?=some (rawInt pl) from hpl]
 show wpAny _ _ (setNextDrawn a pl ep >>= _) _ _ s
 refine wpAny_bind ?_
 unfold setNextDrawn
 refine wpAny_bind (wpAny_setState_of ha rfl hf ?_)
 dsimp only
 rw [if_neg (by simp),hx]
 refine wpAny_pure ?_
 show wpAny _ _ (setField (.ref it) 1 (rawInt (i+1)) >>= _) _ _ s
 refine wpAny_bind (wpAny_setField hi rfl (by simp) (wpAny_pure ⟨x,rfl,wpAny_pure (hQ _ ?_ (bA ..))⟩))
 exact bb _ hi rfl
theorem ZL {m:Nat} {t:SetTable} {ps:Array Value} {Q:Option Value->Shared->Prop} (hh:A.handled=none) (hi:s.heap.get? it=some (uj (.ref p) i a n ep)) (ha:s.heap.get? a=some (kg es ep t)) (hf:t.fits es.size=true) (hz:es.size=n)
  (hp:s.heap.get? p=some { cls:=.type "tuple",data:=.seq ps m }) (hpl:ps[i]?=none)
  (hQ:∀ h',Heap.ExtBut it s.heap h'->Q none { s with heap:=h' }):wpAny (model prog w) A (pyNext (.ref it)) Q E s:=by
 have hT:s.TypeIs (.ref it) "set_iterator":=⟨_,hi,rfl⟩
 unfold pyNext
 refine wpAny_bind (wpAny_attempt (wpAny_callSpecial?_slot (name:=aJ "__next__") hT slot_si_next (wpAny_call_entry slot_si_next hT kP ?_ (vy _))))
 show wpAny _ _ (fieldsOf (.ref it) >>= _) _ _ s
 refine wpAny_bind (wpAny_fieldsOf hi rfl ?_)
 show wpAny _ _ (setEntries a >>= _) _ _ s
 refine wpAny_bind (wpAny_setEntries_of ha rfl hf ?_)
 rw [if_neg (by rw [hz]; simp)]
 show wpAny _ _ (seqItems? (.ref p) >>= _) _ _ s
 refine wpAny_bind (wpAny_seqItems hp rfl ?_)
 dsimp only
 rw [show ps[Int.toNat (i:Int)]?=none from hpl]
 show wpAny _ _ (setField (.ref it) 0 (rawInt 0) >>= _) _ _ s
 refine wpAny_bind (wpAny_setField hi rfl (by simp) ?_)
 have h1:(s.heap.update it (Obj.mapFields (·.setIfInBounds 0 (rawInt 0)))).get? it=some (uj (rawInt 0) i a n ep):=bb _ hi rfl
 refine wpAny_bind (wpAny_setField h1 rfl (by simp) ?_); show wpAny _ _ (newExc (.type "StopIteration") [] >>= _) _ _ _
 refine wpAny_bind ?_; simp only [newExc,newTuple]; refine wpAny_bind (wpAny_newObj_type ?_ (by size_fits))
 refine wpAny_bind (m:=firstArgMember _ _) (wpAny_of_eq (a:=cC) (by first | rfl | (simp only [firstArgMember]; rfl)) ?_); refine wpAny_newObj_type ?_ (by size_fits); simp only [raiseNew]
 refine wpAny_bind (wpAny_handled ?_); first | rw [show A.in1.handled=none from hh] | rw [hh]
 refine wpAny_bind (wpAny_pure (wpAny_throw ?_)); refine wpAny_bind (wpAny_isInstance (T := "StopIteration") (b:=true) ⟨_,ah _ rfl,rfl⟩ isSubtype_stop ?_)
 exact wpAny_pure (hQ _ (((((bA ..).trans (bA ..))).extBut.push _).push _))
theorem gq {o:Obj} {Q:Value->Shared->Prop} (hi:s.heap.get? it=some o) (hc:o.cls=.type "set_iterator") (h:Q (.ref it) s):wpAny (model prog w) A (pyIter (.ref it)) Q E s:=by
 have hT:s.TypeIs (.ref it) "set_iterator":=⟨_,hi,hc⟩
 refine wpAny_pyIter_slot hT zg (wpAny_call_entry zg hT Jr ?_ (Vh _)); show wpAny _ _ (ret (.ref it)) _ _ s
 exact wpAny_pure ⟨_,rfl, "set_iterator",_,hT,slot_si_next.lookup,h⟩
theorem ZM {ep:Nat} {t:SetTable} (hh:A.handled=none) (hb:w.params.followText "set-order"=true) (hf:t.fits es.size=true) (hne:a≠it) :
  Walks prog w A it [it,a] [it] es.size (fun i v=>((pickOrder (w.params.setOrder a ep) es).toList.map (·.2))[i]?=some v) (fun i h=>h.get? it=some (uj (rawInt 0) i a es.size ep)/\h.get? a=some (kg es ep t)) where
 sub:=fun b hb=>by simp at hb; simp [hb]
 frame:=fun _ _ _ st hk=>⟨hk it (by simp) _ st.1,hk a (by simp) _ st.2⟩
 item:=fun i s Q E hi st hQ=>by
  have hlen:(pickOrder (w.params.setOrder a ep) es).size=es.size:=by
   have:=(gp (w.params.setOrder a ep) es).length_eq
   simpa using this
  have hlt:i < (pickOrder (w.params.setOrder a ep) es).size:=by omega
  obtain ⟨e,he⟩:∃ e,(pickOrder (w.params.setOrder a ep) es)[i]?=some e:=⟨_,bx hlt⟩
  refine Vj (x:=e.2) (nx:=0) st.1 st.2 hf rfl (fun A1 Q1 E1 q=>?_) fun h' hi' sb=>hQ e.2 h' s.toks ?_ ⟨hi',?_⟩ fun b o nb eo=>?_
  ·unfold setNext
   refine wpAny_bind (wpAny_setState_of st.2 rfl hf ?_)
   dsimp only
   refine wpAny_bind (m:=setsByText) (wpAny_bind (wpAny_askSetting (wpAny_pure ?_)))
   rw [vi hb,if_pos rfl,if_neg (by simp)]
   refine wpAny_bind ?_
   unfold setWalk
   refine wpAny_bind (wpAny_setState_of st.2 rfl hf ?_)
   dsimp only
   refine wpAny_bind (m:=setsByText) (wpAny_bind (wpAny_askSetting (wpAny_pure ?_)))
   rw [vi hb,if_pos rfl]
   refine wpAny_bind (wpAny_askSetting (wpAny_pure ?_))
   refine wpAny_pure ?_
   rw [show (pickOrder ((⟨(model prog w).prog,(model prog w).w.params⟩:Setting).params.setOrder a ep) es)[i]?=some e from he]
   exact q
  ·rw [aH,aU,he]
   rfl
  ·rw [sb.2 a hne]
   exact st.2
  ·rw [sb.2 b (fun z=>nb (by simp [z]))]
   exact eo
 done:=fun s Q E st hQ=>by
  have hlen:(pickOrder (w.params.setOrder a ep) es).size=es.size:=by
   have:=(gp (w.params.setOrder a ep) es).length_eq
   simpa using this
  refine Vk hh st.1 st.2 hf rfl (fun A1 Q1 E1 q=>?_) fun h' eb=>hQ h' s.toks fun b o nb eo=>eb b o (fun z=>nb (by simp [z])) eo
  unfold setNext
  refine wpAny_bind (wpAny_setState_of st.2 rfl hf ?_)
  dsimp only
  refine wpAny_bind (m:=setsByText) (wpAny_bind (wpAny_askSetting (wpAny_pure ?_)))
  rw [vi hb,if_pos rfl,if_neg (by simp)]
  refine wpAny_bind ?_
  unfold setWalk
  refine wpAny_bind (wpAny_setState_of st.2 rfl hf ?_)
  dsimp only
  refine wpAny_bind (m:=setsByText) (wpAny_bind (wpAny_askSetting (wpAny_pure ?_)))
  rw [vi hb,if_pos rfl]
  refine wpAny_bind (wpAny_askSetting (wpAny_pure ?_))
  refine wpAny_pure ?_
  rw [show (pickOrder ((⟨(model prog w).prog,(model prog w).w.params⟩:Setting).params.setOrder a ep) es)[es.size]?=none from cV (dQ hlen)]
  exact q
 self:=fun i s Q E st hQ=>gq st.1 rfl hQ
noncomputable def yo (t:SetTable) (i:Nat):Nat:=if i=0 then 0 else t.place.getD 0 0+1
theorem Vl (j k:Nat):bi #[j] k=if j < k then 1 else 0:=by
 unfold bi
 show bi.go #[j] k 1 0 1=_
 unfold bi.go
 rw [if_pos (by omega)]
 show (if (#[j]:Array Nat).getD 0 k < k then bi.go #[j] k 0 1 1 else bi.go #[j] k 0 0 0)=_
 show (if j < k then bi.go #[j] k 0 1 1 else bi.go #[j] k 0 0 0)=_
 split <;> rfl
theorem UU {t:SetTable} {Q:Option (Value×Nat)->Shared->Prop} (hb:w.params.followText "set-order"=false) (hf:t.fits es.size=true) (hl:t.led=true) (hz:es.size<=1) (ha:s.heap.get? a=some (kg es ep t)) (hi:i<=es.size)
  (q:Q (match es[i]? with | some e=>some (e.2,yo t (i+1)) | none=>none) s):wpAny (model prog w) A (setNext a (yo t i) i ep) Q E s:=by
 have hps:t.place.size=es.size:=by
  have:=hf
  simp only [SetTable.fits,aN,beq_iff_eq] at this
  exact this.1
 unfold setNext
 refine wpAny_bind (wpAny_setState_of ha rfl hf ?_)
 dsimp only
 refine wpAny_bind (m:=setsByText) (wpAny_bind (wpAny_askSetting (wpAny_pure ?_)))
 rw [vi hb,if_neg (by simp)]
 show wpAny _ _ (if (!t.plain&&decide (es.size > 1))=true then _ else _) _ _ _
 rw [if_neg (by simp; intro _; omega)]
 refine wpAny_bind ?_
 show wpAny _ _ (if (!t.led&&!es.isEmpty)=true then _ else _) _ _ _
 rw [hl,if_neg (by simp)]
 refine wpAny_pure (wpAny_pure ?_)
 have e:(match es[bi t.place (yo t i)]?,t.place[bi t.place (yo t i)]? with | some (_,x),some j=>some (x,j+1) | _,_=>none)=(match es[i]? with | some e=>some (e.2,yo t (i+1)) | none=>none:Option (Value×Nat)):=by
  obtain ⟨l⟩:=es
  obtain ⟨mask,⟨pl⟩,du,fi,le,mo,pn⟩:=t
  cases l with
  | nil=>simp
  | cons e0 l=>
   cases l with
   | cons _ _=>exact absurd hz (by simp)
   | nil=>
    cases pl with
    | nil=>exact absurd hps (by simp)
    | cons j pl=>
     cases pl with
     | cons _ _=>exact absurd hps (by simp)
     | nil=>
      have hi1:i=0\/i=1:=by simp at hi; omega
      rcases hi1 with rfl | rfl
      ·show (match (#[e0]:Array (Int×Value))[bi #[j] 0]?,(#[j]:Array Nat)[bi #[j] 0]? with | some (_,x),some j=>some (x,j+1) | _,_=>none)=some (e0.2,j+1)
       rw [Vl,if_neg (by omega)]
       rfl
      ·show (match (#[e0]:Array (Int×Value))[bi #[j] (j+1)]?,(#[j]:Array Nat)[bi #[j] (j+1)]? with | some (_,x),some j=>some (x,j+1) | _,_=>none)=none
       rw [Vl,if_pos (by omega)]
       rfl
 exact Eq.mp (congrArg (fun z=>Q z s) e.symm) q
theorem qbe {ep:Nat} {t:SetTable} (hh:A.handled=none) (hb:w.params.followText "set-order"=false) (hf:t.fits es.size=true) (hl:t.led=true) (hz:es.size<=1) (hne:a≠it) :
  Walks prog w A it [it,a] [it] es.size (fun i v=>(es.toList.map (·.2))[i]?=some v) (fun i h=>h.get? it=some (uj (rawInt (yo t i)) i a es.size ep)/\h.get? a=some (kg es ep t)) where
 sub:=fun b hb=>by simp at hb; simp [hb]
 frame:=fun _ _ _ st hk=>⟨hk it (by simp) _ st.1,hk a (by simp) _ st.2⟩
 item:=fun i s Q E hi st hQ=>by
  have he:es[i]?=some es[i]:=bx hi
  refine Vj (x:=es[i].2) (nx:=yo t (i+1)) st.1 st.2 hf rfl (fun A1 Q1 E1 q=>UU hb hf hl hz st.2 (cU hi) (by rw [he]; exact q)) fun h' hi' sb=>hQ es[i].2 h' s.toks ?_ ⟨hi',?_⟩ fun b o nb eo=>?_
  ·rw [aH,aU,he]
   rfl
  ·rw [sb.2 a hne]
   exact st.2
  ·rw [sb.2 b (fun z=>nb (by simp [z]))]
   exact eo
 done:=fun s Q E st hQ=>Vk hh st.1 st.2 hf rfl (fun A1 Q1 E1 q=>UU hb hf hl hz st.2 (ao _) (by rw [cV (ao _)]; exact q)) fun h' eb=>hQ h' s.toks fun b o nb eo=>eb b o (fun z=>nb (by simp [z])) eo
 self:=fun i s Q E st hQ=>gq st.1 rfl hQ
noncomputable def qeY (es:Array (Int×Value)) (ps:List Nat):List Value:=ps.map fun k=>(es[k]?.map (·.2)).getD .none
theorem ZN (h:ps.Perm (aQ es.size)):(qeY es ps).Perm (es.toList.map (·.2)):=by
 have e:qeY es (aQ es.size)=es.toList.map (·.2):=by
  apply eh
  intro i
  unfold qeY
  rw [aH,aH,show es.toList[i]?=es[i]? from aU]
  by_cases hi:i < es.size
  ·rw [List.getElem?_range hi,bx hi]
   simp [hi]
  ·rw [bR (by rw [cB]; omega),cV (by omega)]
   rfl
 rw [<-e]
 exact h.map _
theorem YU {ep m:Nat} {t:SetTable} (hh:A.handled=none) (hf:t.fits es.size=true) (hp:ps.Perm (aQ es.size)) (hne:a≠it) (hpe:p≠it) :
  Walks prog w A it [it,a,p] [it] es.size (fun i v=>(qeY es ps)[i]?=some v) (fun i h=>h.get? it=some (uj (.ref p) i a es.size ep)/\h.get? a=some (kg es ep t)/\h.get? p=some { cls:=.type "tuple",data:=.seq (ps.map fun (i:Nat)=>rawInt i).toArray m }) where
 sub:=fun b hb=>by simp at hb; simp [hb]
 frame:=fun _ _ _ st hk=>⟨hk it (by simp) _ st.1,hk a (by simp) _ st.2.1,hk p (by simp) _ st.2.2⟩
 item:=fun i s Q E hi st hQ=>by
  have hlen:ps.length=es.size:=by rw [hp.length_eq,cB]
  have hil:i < ps.length:=by omega
  have hk:ps[i] < es.size:=cN.mp (hp.mem_iff.mp (ci hil))
  have he:es[ps[i]]?=some es[ps[i]]:=bx hk
  refine YT (x:=es[ps[i]].2) (hx:=es[ps[i]].1) (pl:=ps[i]) st.1 st.2.1 hf rfl st.2.2 ?_ he fun h' hi' sb=>hQ es[ps[i]].2 h' s.toks ?_ ⟨hi',?_,?_⟩ fun b o nb eo=>?_
  ·rw [dH,aH,aG hil]
   rfl
  ·unfold qeY
   rw [aH,aG hil]
   simp [he]
  ·rw [sb.2 a hne]
   exact st.2.1
  ·rw [sb.2 p hpe]
   exact st.2.2
  ·rw [sb.2 b (fun z=>nb (by simp [z]))]
   exact eo
 done:=fun s Q E st hQ=>by
  have hlen:ps.length=es.size:=by rw [hp.length_eq,cB]
  refine ZL hh st.1 st.2.1 hf rfl st.2.2 ?_ fun h' eb=>hQ h' s.toks fun b o nb eo=>eb b o (fun z=>nb (by simp [z])) eo
  rw [dH,bR (by simp; omega)]
 self:=fun i s Q E st hQ=>gq st.1 rfl hQ
theorem qbf {t:SetTable} {A1:Around} {Q:Value->Shared->Prop} (hh:A1.handled=none) (ha:s.heap.get? a=some (kg es ep t)) (d:SetD prog w es t ks)
  (hQ:∀ (it:Addr) (h':Heap) (dr:Drawn) (ord:List Value) (fp:List Addr) (St:Nat->Heap->Prop),(∀ b o,s.heap.get? b=some o->h'.get? b=some o)->ord.Perm (es.toList.map (·.2))->Walks prog w A1 it fp [it] es.size (fun i v=>ord[i]?=some v) St->St 0 h' ->
   (∀ b∈fp,b=a\/s.heap.objs.size<=b)->s.heap.objs.size<=it->Q (.ref it) { s with heap:=h',drawn:=dr }):wpAny (model prog w) A (pyIter (.ref a)) Q E s:=by
 have hT:s.TypeIs (.ref a) "set":=⟨_,ha,rfl⟩
 have hlt:a < s.heap.objs.size:=am ha
 refine wpAny_pyIter_slot hT PySem.F.slot_set_iter (wpAny_call_entry PySem.F.slot_set_iter hT Vi ?_ (PySem.F.args_set_iter_1 _))
 show wpAny _ _ (Builtin.Frozenset.sizeOf a >>= _) _ _ s
 refine wpAny_bind (m:=Builtin.Frozenset.sizeOf a) (wpAny_bind (wpAny_setEntries_of ha rfl d.fits (wpAny_pure ?_)))
 refine wpAny_bind (m:=setDrawn a) ?_
 unfold setDrawn
 refine wpAny_bind (wpAny_setState_of ha rfl d.fits ?_)
 dsimp only
 refine wpAny_bind (m:=setsByText) (wpAny_bind (wpAny_askSetting (wpAny_pure ?_)))
 refine wpAny_pure ?_
 cases hb:w.params.followText "set-order" with
 | true=>
  rw [vi hb,if_neg (by simp)]
  refine wpAny_bind (wpAny_pure ?_)
  refine wpAny_bind (m:=setEpoch a) (wpAny_setEpoch_of ha rfl d.fits ?_)
  refine wpAny_bind (wpAny_newObj_type (wpAny_pure ⟨_,rfl, "set_iterator",_,⟨_,ah _ rfl,rfl⟩,slot_si_next.lookup,?_⟩))
  refine hQ _ _ s.drawn _ _ _ (fun b o e=>aa _ e) ((gp (w.params.setOrder a ep) es).map _) (ZM hh hb d.fits (aA hlt)) ⟨ah _ rfl,aa _ ha⟩ ?_ (ao _)
  intro b hb
  rcases ac.mp hb with z | z
  ·exact .inr (z ▸ ao _)
  ·exact .inl (ax.mp z)
 | false=>
  have hled:t.led=true:=by rw [d.led,hb]; rfl
  rw [vi hb]
  show wpAny _ _ (if (!false&&(!t.plain&&decide (es.size > 1)))=true then _ else _) _ _ _
  by_cases hn:es.size<=1
  ·rw [if_neg (by simp; intro _; omega)]
   refine wpAny_bind (wpAny_pure ?_)
   refine wpAny_bind (m:=setEpoch a) (wpAny_setEpoch_of ha rfl d.fits ?_)
   refine wpAny_bind (wpAny_newObj_type (wpAny_pure ⟨_,rfl, "set_iterator",_,⟨_,ah _ rfl,rfl⟩,slot_si_next.lookup,?_⟩))
   refine hQ _ _ s.drawn _ _ _ (fun b o e=>aa _ e) (ck _) (qbe hh hb d.fits hled hn (aA hlt)) ⟨ah _ rfl,aa _ ha⟩ ?_ (ao _)
   intro b hb
   rcases ac.mp hb with z | z
   ·exact .inr (z ▸ ao _)
   ·exact .inl (ax.mp z)
  ·have hpl:t.plain=false:=d.plain fun z=>by
    have h0:=d.size
    rw [z,bq] at h0
    omega
   rw [if_pos (by rw [hpl]; simp; omega)]
   refine wpAny_bind (ZJ es.size (aQ es.size) s (by simp) fun ps dr hp=>?_)
   have hpl2:ps.length=es.size:=by rw [hp.length_eq,cB]
   have hsz:(ps.map fun (i:Nat)=>rawInt i).length<=sizeLine:=by rw [aB,hpl2]; exact fits_of_scanBound d.bd
   refine wpAny_bind (wpAny_newTuple ?_ hsz)
   refine wpAny_bind (m:=setEpoch a) (wpAny_setEpoch_of (aa _ ha) rfl d.fits ?_)
   refine wpAny_bind (wpAny_newObj_type (wpAny_pure ⟨_,rfl, "set_iterator",_,⟨_,ah _ rfl,rfl⟩,slot_si_next.lookup,?_⟩))
   have hp1:s.heap.objs.size < (s.heap.push ({ cls:=.type "tuple",data:=.seq (ps.map fun (i:Nat)=>rawInt i).toArray }:Obj)).objs.size:=by rw [cj]; exact Nat.lt_succ_self _
   refine hQ _ _ dr _ _ _ (fun b o e=>aa _ (aa _ e)) (ZN hp) (YU (p:=s.heap.objs.size) hh d.fits hp (aA (dF hlt hp1)) (aA hp1)) ⟨ah _ rfl,aa _ (aa _ ha),aa _ (ah _ rfl)⟩ ?_ (cU hp1)
   intro b hb
   rcases ac.mp hb with z | z
   ·exact .inr (z ▸ cU hp1)
   ·rcases ac.mp z with z | z
    ·exact .inl z
    ·exact .inr (dQ (ax.mp z).symm)
end
section
theorem qbg {ord:List Value} {acc:Array Value} (hl:ord.length=n) (h:ItemsOf (fun i v=>ord[i]?=some v) acc n):acc.toList=ord:=by
 apply eh
 intro i
 rw [show acc.toList[i]?=acc[i]? from aU]
 by_cases hi:i < acc.size
 ·rw [bx hi]
  exact (h.2 i _ (bx hi)).symm
 ·rw [cV (by omega),bR (by have:=h.1; omega)]
theorem Wx {t:SetTable} {Q:List Value->Shared->Prop} (hh:A.handled=none) (ha:s.heap.get? a=some (kg es ep t)) (d:SetD prog w es t ks)
  (hQ:∀ h' dr tk ord,(∀ b o,s.heap.get? b=some o->h'.get? b=some o)->ord.Perm (es.toList.map (·.2))->Q ord { s with heap:=h',drawn:=dr,toks:=tk }):wpAny (model prog w) A (collect (.ref a)) Q E s:=by
 have hlt:a < s.heap.objs.size:=am ha
 unfold collect
 refine wpAny_bind (wpAny_runValue (codeAny_builtin PySem.F.entry_proto_collect ?_)); rw [bn PySem.F.plain_proto_collect _]
 show wpAny _ A.in1 (newList [] >>= fun l=>again (.builtin "list.__iadd__" ⟨[l,.ref a],[]⟩)) _ _ s; refine wpAny_bind (wpAny_newObj_type ?_)
 refine wpAny_pure ⟨plainId_quiet PySem.F.plain_list_iadd _,codeAny_builtin PySem.F.entry_list_iadd ?_⟩; rw [bn PySem.F.plain_list_iadd _]
 have ha1:(s.heap.push { cls:=.type "list",data:=.seq ([]:List Value).toArray }).get? a=some (kg es ep t):=aa _ ha
 have hT:et { s with heap:=s.heap.push { cls:=.type "list",data:=.seq ([]:List Value).toArray } } (.ref a) "set":=⟨_,ha1,rfl⟩
 show wpAny _ A.in1 (ba (.ref s.heap.objs.size) (.ref a) (.ref s.heap.objs.size)) _ _ _; unfold ba
 refine wpAny_bind (wpAny_typeOf hT ?_)
 have h1:cI (.ref s.heap.objs.size) (.ref a)=false:=by simp [cI,cz hlt]
 rw [if_neg (by rw [h1]; decide)]
 refine wpAny_bind (qbf (A1:=A.in1) hh ha1 d fun it h2 dr ord fp St k2 hp W hst hfp hit=>?_)
 have hS1:h2.get? s.heap.objs.size=some { cls:=.type "list",data:=.seq ([]:List Value).toArray }:=k2 _ _ (ah _ rfl)
 have ha2:h2.get? a=some (kg es ep t):=k2 _ _ ha1
 refine wpAny_bind (wpAny_holding ?_)
 unfold Builtin.List.listLengthHint
 have hT2:et { s with heap:=h2,drawn:=dr } (.ref a) "set":=⟨_,ha2,rfl⟩
 refine wpAny_bind (wpAny_specialOf hT2 PySem.F.slot_set_len.lookup ?_)
 (generalize hid:("set.__len__":String)=id0; (fail_if_success (clear hid id0)); wp_delta; rw [show splitId id0=some ("set", "__len__") from by subst hid; decide +kernel]; subst hid)
 refine wpAny_bind (wpAny_isInstance (b:=true) hT2 (by rw [isSubtype_type]; kernel_rfl) ?_)
 refine wpAny_bind (m:=typeOf (.ref a)) (wpAny_typeOf hT2 ?_)
 refine wpAny_pure ?_
 show wpAny _ A.in1 (rule "list.extend.makes-room" >>= fun _=>Builtin.List.listTouch (.ref s.heap.objs.size) >>= fun _=>again (.builtin "list.extend.loop" ⟨[.ref s.heap.objs.size,.ref it,.ref s.heap.objs.size],[]⟩)) _ _ _
 refine wpAny_bind (wpAny_rule (wpAny_bind ?_)); show wpAny _ A.in1 (updateSeq s.heap.objs.size (·.push .none) >>= fun _=>updateSeq s.heap.objs.size (·.pop)) _ _ _
 refine wpAny_bind (wpAny_updateSeq hS1 rfl ?_); have hS₂:=bb (cE (·.push cC)) hS1 rfl
 refine wpAny_updateSeq hS₂ rfl ?_; have hS₃:=bb (cE (·.pop)) hS₂ rfl
 have hzs:(s.heap.push ({ cls:=.type "list",data:=.seq ([]:List Value).toArray }:Obj)).objs.size=s.heap.objs.size+1:=cj ..
 have oth:∀ b o,b≠s.heap.objs.size->h2.get? b=some o->((h2.update s.heap.objs.size (cE (·.push cC))).update s.heap.objs.size (cE (·.pop))).get? b=some o:=fun b o hb e=>(cf _ _ (aX hb)).trans ((cf _ _ (aX hb)).trans e)
 have nf:s.heap.objs.size∉fp:=fun z=>by
  rcases hfp _ z with q | q
  ·exact cz hlt q
  ·exact Nat.not_succ_le_self _ (hzs ▸ q)
 have hlen:ord.length=es.size:=by
  rw [hp.length_eq]
  simp
 refine wpAny_pure ⟨plainId_quiet PySem.F.plain_extend_loop _,codeAny_extend_loopS W.toS (fits_of_scanBound d.bd) _ nf _ es.size 0 _ _ _ rfl (bB _) (W.frame 0 h2 _ hst fun b hb o e=>oth b o (fun z=>nf (z ▸ hb)) e) hS₃ (ItemsOf.nil _) fun s' acc' c' hm hS' hacc=>?_⟩
 show wpAny _ A (load s.heap.objs.size >>= _) _ _ s'
 refine wpAny_bind (wpAny_load hS' (wpAny_pure ?_))
 rw [qbg hlen hacc]
 obtain ⟨h',g',d',tk',os'⟩:=s'
 have eg:g'=s.gens:=hm.gens
 have ed:d'=dr:=hm.drawn
 have eo:os'=s.os:=hm.os
 subst eg ed eo
 refine hQ h' d' tk' ord (fun b o e=>?_) hp
 have hb:=am e
 refine hm.heap b o (fun z=>?_) (oth b o (aA hb) (k2 b o (aa _ e)))
 rcases ac.mp z with z | z
 ·exact aA hb z
 ·have h3:s.heap.objs.size+1<=it:=hzs ▸ hit
  rw [<-ax.mp z] at h3
  exact bG _ (dF hb h3)
theorem YV {Q:Value->Shared->Prop} (hh:A.handled=none) (hS:SetS prog w s.heap a ks) (h64:ks.length < 64)
  (hQ:∀ (h1 h':Heap) dr tk vs e ss,(∀ b o,s.heap.get? b=some o->h1.get? b=some o)->(∀ b o,h1.get? b=some o->h'.get? b=some o)->h'.get? h1.objs.size=some (seqObj "list" vs e)->StrsAre vs.toList ss->ss.Perm ks->sortedS ss=true->Q (.ref h1.objs.size) { s with heap:=h',drawn:=dr,toks:=tk }) :
  wpAny (model prog w) A (call (.builtin "sorted") [.ref a]) Q E s:=by
 obtain ⟨es,ep,t,ha,d⟩:=hS
 refine Calls.call_function_entry kind_sorted plain_sorted entry_sorted (args_sorted1 _) ?_; unfold Builtin.«sorted»
 refine wpAny_bind (m:=checkCount "sorted" 1 1 _) (wpAny_pure ?_)
 refine wpAny_bind (Wx (by exact hh) ha d fun h1 dr tk ord k1 hp=>?_)
 have hst:StrsAre ord (ord.map strOf):=strsAre_map ord fun v hv=>by
  obtain ⟨e,he,rfl⟩:=ay.mp (hp.mem_iff.mp hv)
  exact ZG d.el he
 have hpk:(ord.map strOf).Perm ks:=(hp.map strOf).trans (by rw [cW]; exact d.perm)
 have hlen:ord.length=ks.length:=by
  have:=hpk.length_eq
  rwa [aB] at this
 refine wpAny_bind (wpAny_newList ?_ (by rw [hlen,sizeLine_eq]; omega))
 have hoL:(h1.push (seqObj "list" ord.toArray 0)).get? h1.objs.size=some (seqObj "list" ord.toArray 0):=ah _ rfl
 refine wpAny_bind (wpAny_holding (wpAny_call_entry slot_list_sort (s:={ s with heap:=h1.push (seqObj "list" ord.toArray 0),drawn:=dr,toks:=tk }) ⟨_,hoL,rfl⟩ entry_list_sort (list_sort_treeK strKind_oneLt hoL hst.keysOf (fun v₁ v₂ rest e=>keyKind_strs (by rw [<-e]; exact hst)) (by rw [hlen]; exact h64) fun st' a1 a2=>⟨_,rfl,?_⟩) (args_list_sort _)))
 obtain ⟨ss',b1,b2,b3⟩:=sorted_out_str hst a1 a2
 obtain ⟨e,he⟩:=sortedHeap_at (out:=(arrOf st').map (·.2)) hoL
 refine wpAny_pure ⟨_,rfl,hQ h1 _ dr tk _ e ss' k1 (fun b o eb=>?_) he b1 (b2.trans hpk) b3⟩
 have hb:=am eb
 rw [sortedHeap_old (aA hb) (by rw [cj]; exact d9 hb)]
 exact aa _ eb
end
section
variable {z TI TO i1 i2:Addr} {fp1 fp2:List Addr} {n1 n2:Nat} {P1 P2:Nat->Value->Prop} {S1 S2:Nat->Heap->Prop} {a b:Value}
end
inductive SK where
 | l | t
noncomputable def SK.itc:SK->String
 | .l => "list_iterator"
 | .t => "tuple_iterator"
def ItK (h:Heap) (it a:Addr):SK->Nat->Prop
 | .l,i=>h.IsListIter it a i
 | .t,i=>h.IsTupleIter it a i
theorem ItK.obj:∀ {k:SK},ItK h it a k i->∃ o,h.get? it=some o/\o.cls=.type k.itc/\o.data=.fields #[.ref a,.int i 0]
 | .l,⟨o,e,c,d⟩=>⟨o,e,c,d⟩
 | .t,⟨o,e,c,d⟩=>⟨o,e,c,d⟩
variable {t':Nat}
section
theorem ZO {ch:List Addr} (I:Inv X pins σ H s) (k:∀ b o,b∉ch->s.heap.get? b=some o->h'.get? b=some o) (hf:∀ b∈ch,VT X pins H b):Inv X pins σ H { s with heap:=h',toks:=t' }:=by
 have nit:∀ b u,H b=some u->b∉ch:=fun b u e z=>by
  rw [(hf b z).1] at e
  cases e
 refine I.step (g':=s.gens) (d':=s.drawn) (ch:=ch) (fun b hb=>?_) (fun b o _ _ hc e _=>k b o hc e) (fun b o _ _ hc e _=>⟨o.slots,k b o hc e⟩) (fun _ _ _ _ n=>n) (fun b o hc e=>⟨o,k b o hc e⟩) (fun _ _ e=>e) (fun _ _ _ e=>e) (fun b ps e=>⟨#[],by rw [e]; simp⟩) (fun m hm=>?_) (fun b u e=>?_) I.bare
 ·obtain ⟨f0,f1,f2,f3,f4,f5⟩:=hf b hb
  exact ⟨f3,f1,f4,f5⟩
 ·obtain ⟨o,es,ep,ho,r⟩:=hm
  exact ⟨o,es,ep,k _ o (fun z=>(hf _ z).2.1 rfl) ho,r⟩
 ·refine (I.hok b u e).stay (fun c v hc q=>k c v ?_ q) (fun _ q=>q) fun _ _ q=>q
  rcases hc with z | z
  ·rw [z]
   exact nit b u e
  ·exact nit c _ z
theorem qhN {d':Drawn} (I:Inv X pins σ H s) (k:∀ b u,s.heap.get? b=some u->h'.get? b=some u):Inv X pins σ H { s with heap:=h',drawn:=d',toks:=t' }:=by
 refine I.step (g':=s.gens) (d':=d') (ch:=[]) (fun _ z=>nomatch z) (fun b o _ _ _ e _=>k b o e) (fun b o _ _ _ e _=>⟨o.slots,k b o e⟩) (fun _ _ _ _ n=>n) (fun b o _ e=>⟨o,k b o e⟩) (fun _ _ e=>e) (fun _ _ _ e=>e) (fun b ps e=>⟨#[],by rw [e]; simp⟩) (fun m hm=>?_) (I.hok.kept k) I.bare
 obtain ⟨o,es,ep,ho,r⟩:=hm
 exact ⟨o,es,ep,k _ o ho,r⟩
end
theorem ZP {xs:List V} {us:List Value} (r:Vals xs us) (h:us[i]?=some u):∃ x,xs[i]?=some x/\RelV x u:=by
 have hi:i < us.length:=(au.mp h).1
 have hx:i < xs.length:=by rw [r.length]; exact hi
 obtain ⟨u',h1,h2⟩:=r.get (aG hx)
 rw [h] at h1
 cases h1
 exact ⟨xs[i],aG hx,h2⟩
def leS (x y:Str):Prop:=¬y.cps.toList < x.cps.toList
noncomputable def qdR (x:Str):List Str->List Str
 | []=>[x]
 | y::l=>if yl y x=true then y::qdR x l else x::y::l
noncomputable def kD:List Str->List Str
 | []=>[]
 | x::l=>qdR x (kD l)
theorem Vm {z:Str} (a:leS x y) (b:leS y z):leS x z:=List.le_trans (α:=Nat) a b
theorem ZQ (x y:Str):leS x y\/leS y x:=List.le_total (α:=Nat) x.cps.toList y.cps.toList
theorem qbh (a:leS x y) (b:leS y x):x=y:=by
 have e:=List.le_antisymm (α:=Nat) (as:=x.cps.toList) (bs:=y.cps.toList) a b
 obtain ⟨⟨l⟩⟩:=x
 obtain ⟨⟨m⟩⟩:=y
 simp at e
 rw [e]
theorem strLt_false:yl y x=false↔leS x y:=by
 unfold yl leS
 exact decide_eq_false_iff_not
theorem gt (x:Str):∀ l,(qdR x l).Perm (x::l)
 | []=>ck _
 | y::l=>by
  unfold qdR
  split
  ·exact ((gt x l).cons y).trans (List.Perm.swap _ _ _)
  ·exact ck _
theorem je:∀ l,(kD l).Perm l
 | []=>ck _
 | x::l=>(gt x _).trans ((je l).cons x)
theorem gu (x:Str):∀ l,l.Pairwise leS->(qdR x l).Pairwise leS
 | [],_=>List.pairwise_singleton _ _
 | y::l,h=>by
  have h0:=bT.mp h
  unfold qdR
  split
  ·rename_i hlt
   have hyx:leS y x:=by
    rcases ZQ y x with q | q
    ·exact q
    ·rw [<-strLt_false] at q
     rw [q] at hlt
     cases hlt
   refine bT.mpr ⟨fun z hz=>?_,gu x l h0.2⟩
   rcases ac.mp ((gt x l).mem_iff.mp hz) with rfl | hz
   ·exact hyx
   ·exact h0.1 z hz
  ·rename_i hlt
   have hxy:leS x y:=strLt_false.mp (by cases e:yl y x with | true=>exact absurd e hlt | false=>rfl)
   refine bT.mpr ⟨fun z hz=>?_,h⟩
   rcases ac.mp hz with rfl | hz
   ·exact hxy
   ·exact Vm hxy (h0.1 z hz)
theorem vz:∀ l,(kD l).Pairwise leS
 | []=>d7
 | x::l=>gu x _ (vz l)
theorem gx:∀ {l m:List Str},l.Perm m->l.Pairwise leS->m.Pairwise leS->l=m
 | [],m,p,_,_=>p.nil_eq
 | x::l,[],p,_,_=>absurd p.length_eq (by simp)
 | x::l,y::m,p,hl,hm=>by
  have a:=bT.mp hl
  have b:=bT.mp hm
  have exy:x=y:=by
   have h1:y∈x::l:=p.mem_iff.mpr (aw ..)
   have h2:x∈y::m:=p.mem_iff.mp (aw ..)
   rcases ac.mp h1 with e | e
   ·exact e.symm
   ·rcases ac.mp h2 with e' | e'
    ·exact e'
    ·exact qbh (a.1 y e) (b.1 x e')
  subst exy
  rw [gx p.cons_inv a.2 b.2]
theorem QN:∀ (x:Str) (l:List Str),risingS x l=true->(x::l).Pairwise leS
 | x,[],_=>List.pairwise_singleton _ _
 | x,y::l,h=>by
  have h:(!ltCps y.cps.toList x.cps.toList&&risingS y l)=true:=h
  rw [aN] at h
  have ih:=QN y l h.2
  have hxy:leS x y:=by
   have h1:=h.1
   rw [ltCps_eq] at h1
   unfold leS
   simpa using h1
  refine bT.mpr ⟨fun z hz=>?_,ih⟩
  rcases ac.mp hz with rfl | hz
  ·exact hxy
  ·exact Vm hxy ((bT.mp ih).1 z hz)
theorem Wz:∀ (l:List Str),sortedS l=true->l.Pairwise leS
 | [],_=>d7
 | x::l,h=>QN x l h
theorem Vn (p:ss.Perm ks) (h:sortedS ss=true):ss=kD ks:=gx (p.trans (je ks).symm) (Wz ss h) (vz ks)
noncomputable def gy:List D->Option (List Str)
 | []=>some []
 | .str x::l=>(gy l).map (x::·)
 | _::_=>none
noncomputable def zh:D->Option (List Str)
 | .lst ds=>gy ds
 | .tup ds=>gy ds
 | _=>none
noncomputable def qdS (P:Program) (w:World) (p:Addr) (ks:List Str):HO:=.ext fun h=>SetS P w h p ks
theorem qdd (x:SetS P w h p ks):ObjOk P w H h p (qdS P w p ks):=
 ⟨x,let ⟨_,_,_,e,_⟩:=x; ⟨_,e⟩,fun _ _ a k=>a.at k⟩
theorem Js:∀ {vs:List V} {us:List Value} {ds:List D} {ss:List Str},IsL K F vs ds->Vals vs us->gy ds=some ss->StrsAre us ss/\∀ x∈ss,x.length<=sizeLine
 | [],[],[],ss,_,_,e=>by cases e; exact ⟨.nil,fun x h=>by cases h⟩
 | v::vs,u::us,d::ds,ss,.cons i il,.cons r rl,e=>by
  cases d with
  | str x=>
   cases q:gy ds with
   | none=>
    have e:(gy ds).map (x::·)=some ss:=e
    rw [q] at e
    cases e
   | some sl=>
    have e:(gy ds).map (x::·)=some ss:=e
    rw [q] at e
    cases e
    cases i with
    | str hz=>
     obtain ⟨t,rfl⟩:=r
     have ih:=Js il rl q
     refine ⟨.cons x t ih.1,fun y hy=>?_⟩
     rcases ac.mp hy with rfl | hy
     ·exact hz
     ·exact ih.2 y hy
  | _=>cases e
variable {f fa:Sl->Out (D×Sl)}
section
variable {own:List Nat} {e:Expr} {ma:Mo} {pos:Pos}
theorem Vo:∀ (l ks:List Str) {x:Str},x∈l.foldl vo ks->x∈ks\/x∈l
 | [],ks,x,h=>.inl h
 | y::l,ks,x,h=>by
  rcases Vo l (vo ks y) h with q | q
  ·unfold vo at q
   split at q
   ·exact .inl q
   ·rcases ai.mp q with q | q
    ·exact .inl q
    ·exact .inr (by rw [ax.mp q]; exact aw ..)
  ·exact .inr (ae _ q)
theorem qb8 (hK:C.K=X.K) (hc:X.calm=true):ub X (.type "set") (fun xs H Q=>∃ x F dx ss,xs=[x]/\Same F H/\TopIs C.K F H x dx/\zh dx=some ss/\ss.length < 4000/\((∀ y∈ss,y.length<=sizeLine)->∀ p,H p=none->Q (.ref p) (upd H p (qdS X.prog X.w p (ss.foldl vo []))))):=by
 intro pins s σ H xs us Q I r h
 obtain ⟨x,F,dx,ss,rfl,sb,tx,es,hl,q⟩:=h
 obtain ⟨u,rfl,ru⟩:=yi r
 have fin:(∀ y∈ss,y.length<=sizeLine)->∀ h' tk,SetS X.prog X.w h' s.heap.objs.size (ss.foldl vo [])->(∀ b o,s.heap.get? b=some o->h'.get? b=some o)->EP X pins σ Q (.ref s.heap.objs.size) { s with heap:=h',toks:=tk }:=fun hy h' tk hS kp=>
  ⟨.ref s.heap.objs.size,_,I.laid (t':=tk) kp (ao _) (qdd hS),rfl,q hy _ (I.hok.fresh (ao _))⟩
 cases dx with
 | lst ds=>
  obtain ⟨a,vs,rfl,hq,il⟩:=tx.lst sb
  cases ru
  rw [hK] at hq
  obtain ⟨its,rv,pl,hz⟩:=I.list hq
  obtain ⟨st,hy⟩:=Js il rv es
  have hlt:a < s.heap.objs.size:=let ⟨o,_,e,_⟩:=pl; am e
  have hn:its.length=ss.length:=st.length
  refine Vg (fun A1 Q1 E1 hA k=>?_) (fin hy)
  refine qbd (items:=its.toArray) (hA.trans (I.ok.hd hc)) (Vf (ah _ rfl)) (pl.isList.push _) (by simpa using st) (by rw [ak,hn]; unfold scanBound; omega) (aA hlt) fun h' tk hS kp=>k h' tk hS fun b o eb=>kp b o (aA (am eb)) (aa _ eb)
 | tup ds=>
  obtain ⟨a,vs,rfl,hq,il⟩:=tx.tup sb
  cases ru
  rw [hK] at hq
  obtain ⟨its,rv,pl,hz⟩:=I.tuple hq
  obtain ⟨st,hy⟩:=Js il rv es
  have hlt:a < s.heap.objs.size:=pl.lt
  have hn:its.length=ss.length:=st.length
  refine Vg (fun A1 Q1 E1 hA k=>?_) (fin hy)
  refine ZI (items:=its.toArray) (hA.trans (I.ok.hd hc)) (Vf (ah _ rfl)) (by obtain ⟨o,e,c⟩:=pl; exact ⟨o,aa _ e,c⟩) (by simpa using st) (by rw [ak,hn]; unfold scanBound; omega) (aA hlt) fun h' tk hS kp=>k h' tk hS fun b o eb=>kp b o (aA (am eb)) (aa _ eb)
 | _=>cases es
theorem gz:∀ {us:List Value} {ss:List Str},StrsAre us ss->Vals (ss.map V.str) us
 | _,_,.nil=>.nil
 | _,_,.cons y t h=>.cons ⟨t,rfl⟩ (gz h)
theorem ZR (hc:X.calm=true):ub X (.builtin "sorted") (fun xs H Q=>∃ a ks,xs=[.ref a]/\H a=some (qdS X.prog X.w a ks)/\ks.length < 64/\∀ p,H p=none->Q (.ref p) (upd H p (.lst ((kD ks).map V.str)))):=by
 intro pins s σ H xs us Q I r h
 obtain ⟨a,ks,rfl,ha,h64,q⟩:=h
 obtain ⟨u,rfl,ru⟩:=yi r
 cases ru
 have hS:SetS X.prog X.w s.heap a ks:=(I.hok a _ ha).1
 refine YV (I.ok.hd hc) hS h64 fun h1 h' dr tk vs e ss k1 k2 hp st pm so=>?_
 rw [Vn pm so] at st
 have I1:Inv X pins σ H { s with heap:=h1,drawn:=dr,toks:=tk }:=qhN I k1
 have hz:(kD ks).length<=sizeLine:=by
  rw [(je ks).length_eq,sizeLine_eq]
  omega
 refine ⟨.ref h1.objs.size,_,I1.laid (t':=tk) (o:=.lst ((kD ks).map V.str)) k2 (ao _) ⟨by rw [aB]; exact hz,vs.toList,e,gz st,by simpa [seqObj] using hp⟩,rfl,q _ (I1.hok.fresh (ao _))⟩
theorem qde:ub X (.builtin "len") (fun xs H Q=>∃ a ks,xs=[.ref a]/\H a=some (qdS X.prog X.w a ks)/\Q (.int ks.length) H):=by
 intro pins s σ H xs us Q I r h
 obtain ⟨a,ks,rfl,ha,q⟩:=h
 obtain ⟨u,rfl,ru⟩:=yi r
 cases ru
 obtain ⟨es,ep,t,ho,d⟩:SetS X.prog X.w s.heap a ks:=(I.hok a _ ha).1
 have hb:=d.bd
 refine call_len_set ho ⟨rfl,rfl,rfl⟩ rfl d.fits (by unfold scanBound at hb; omega) ?_
 exact ⟨.int ks.length,H,I.tok _,⟨_,by rw [d.size]⟩,q⟩
theorem WA {m:Mo} {Q R:VK} (h:tE C own m f σ H Q) (i:∀ v H1,Q v H1->R v H1):tE C own m f σ H R:=by
 obtain ⟨F,ρ,rp,po⟩:=h
 refine ⟨F,ρ,rp,?_⟩
 cases q:f ρ with
 | ok p=>
  rw [q] at po
  obtain ⟨d,ρ1⟩:=p
  exact fun v F1 H1 a b c=>i _ _ (po v F1 H1 a b c)
 | exc c ρ1=>
  rw [q] at po
  exact po
 | bad=>
  rw [q] at po
  exact po.elim
noncomputable def wz (d:D):Out D:=match zh d with
 | some ss=>if ss.length < 64 then .ok (.lst ((kD (ss.foldl vo [])).map D.str)) else .bad
 | none=>.bad
noncomputable def Jt (d:D):Out D:=match zh d with
 | some ss=>if ss.length < 4000 then .ok (.int (ss.foldl vo []).length) else .bad
 | none=>.bad
theorem Ju:∀ {ss:List Str},(∀ x∈ss,x.length<=sizeLine)->IsL K F (ss.map V.str) (ss.map D.str)
 | [],_=>.nil
 | x::l,h=>.cons (.str (h x (aw ..))) (Ju fun y hy=>h y (ae _ hy))
theorem xx {p p2 pos2:Pos} (hK:C.K=X.K) (hc:X.calm=true) (hg:Gl X "sorted") (hm:X.mg "sorted"=none) (hv:bootBuiltins "sorted"=some (.builtin "sorted")) (hg2:Gl X "set") (hm2:X.mg "set"=none) (hv2:bootBuiltins "set"=some (.type "set")) (ha:PE X e (tE C own ma fa))
  (he:starEach [e] X.env=[(false,eval e X.env)]:=by exact qY rfl) (he2:starEach [.Call (.Name "set" p2) [e] [] pos2] X.env=[(false,eval (.Call (.Name "set" p2) [e] [] pos2) X.env)]:=by exact qY rfl) :
  PE X (.Call (.Name "sorted" p) [.Call (.Name "set" p2) [e] [] pos2] [] pos) (tE C own .fr (d1 wz fa)):=by
 refine jJ (wn (ZR hc) hg hm hv (qT (uc (qb8 hK hc) hg2 hm2 hv2 (qT ha jM he) (by decide) (by decide) (by rw [he]; rfl) rfl) jM he2) (by decide) (by decide) (by rw [he2]; rfl) rfl) fun σ H Q h=>?_
 refine WA (xq (ma:=ma) h) fun x H1 ⟨x',F,dx,ex,sb,tx,po⟩=>?_
 cases ex
 unfold wz at po
 cases es:zh dx with
 | none=>
  rw [es] at po
  exact po.elim
 | some ss=>
  rw [es] at po
  by_cases hl:ss.length < 64
  ·have po:PoV C .fr F H1 (if ss.length < 64 then .ok (.lst ((kD (ss.foldl vo [])).map D.str)) else .bad) Q:=po
   rw [if_pos hl] at po
   refine ⟨x,F,dx,ss,rfl,sb,tx,es,by omega,fun hy q hq=>⟨q,_,rfl,qw,?_,fun l hl2=>?_⟩⟩
   ·have:=yQ ss []
    rw [bq] at this
    omega
   ·obtain ⟨s1,c1,f1⟩:=vf (u:=qdS X.prog X.w q (ss.foldl vo [])) sb hq
    obtain ⟨s2,c2,f2⟩:=vf (u:=.lst ((kD (ss.foldl vo [])).map V.str)) s1 hl2
    have hl1:H1 l=none:=by
     by_cases z:l=q
     ·rw [z] at hl2
      rw [qw] at hl2
      cases hl2
     ·rwa [qD z] at hl2
    refine po _ _ _ s2 (c1.trans' c2) ⟨l,rfl,hl1,f2,_,qw,Ju fun y hy2=>hy y ?_⟩
    rcases Vo ss [] ((je _).mem_iff.mp hy2) with z | z
    ·cases z
    ·exact z
  ·have po:PoV C .fr F H1 (if ss.length < 64 then .ok (.lst ((kD (ss.foldl vo [])).map D.str)) else .bad) Q:=po
   rw [if_neg hl] at po
   exact po.elim
theorem ZS {p p2 pos2:Pos} (hK:C.K=X.K) (hc:X.calm=true) (hg:Gl X "len") (hm:X.mg "len"=none) (hv:bootBuiltins "len"=some (.builtin "len")) (hg2:Gl X "set") (hm2:X.mg "set"=none) (hv2:bootBuiltins "set"=some (.type "set")) (ha:PE X e (tE C own ma fa))
  (he:starEach [e] X.env=[(false,eval e X.env)]:=by exact qY rfl) (he2:starEach [.Call (.Name "set" p2) [e] [] pos2] X.env=[(false,eval (.Call (.Name "set" p2) [e] [] pos2) X.env)]:=by exact qY rfl) :
  PE X (.Call (.Name "len" p) [.Call (.Name "set" p2) [e] [] pos2] [] pos) (tE C own .sh (d1 Jt fa)):=by
 refine jJ (wn qde hg hm hv (qT (uc (qb8 hK hc) hg2 hm2 hv2 (qT ha jM he) (by decide) (by decide) (by rw [he]; rfl) rfl) jM he2) (by decide) (by decide) (by rw [he2]; rfl) rfl) fun σ H Q h=>?_
 refine WA (xq (ma:=ma) h) fun x H1 ⟨x',F,dx,ex,sb,tx,po⟩=>?_
 cases ex
 unfold Jt at po
 cases es:zh dx with
 | none=>
  rw [es] at po
  exact po.elim
 | some ss=>
  rw [es] at po
  have po:PoV C .sh F H1 (if ss.length < 4000 then .ok (.int (ss.foldl vo []).length) else .bad) Q:=po
  by_cases hl:ss.length < 4000
  ·rw [if_pos hl] at po
   refine ⟨x,F,dx,ss,rfl,sb,tx,es,hl,fun hy q hq=>⟨q,_,rfl,qw,?_⟩⟩
   obtain ⟨s1,c1,f1⟩:=vf (u:=qdS X.prog X.w q (ss.foldl vo [])) sb hq
   exact po _ _ _ s1 c1 (.int _)
  ·rw [if_neg hl] at po
   exact po.elim
end
variable {β:Type}
@[simp] theorem vt {a:α} {k:α->Out β}:(Out.ok a).bind k=k a:=rfl
@[simp] theorem qhc {c:Str} {o:Sl} {k:α->Out β}:(Out.exc c o:Out α).bind k=.exc c o:=rfl
@[simp] theorem qhd {k:α->Out β}:(Out.bad:Out α).bind k=.bad:=rfl
@[simp] theorem qgG {a:α}:(Out.ok a).plain=.ok a:=rfl
@[simp] theorem qhe:(Out.bad:Out α).plain=.bad:=rfl
variable {c:Prop}
@[simp] theorem qhf [Decidable c] {a b:Out α} {k:α->Out β}:(if c then a else b).bind k=if c then a.bind k else b.bind k:=by split <;> rfl
@[simp] theorem qhg [Decidable c] {a b:Out α}:(if c then a else b).plain=if c then a.plain else b.plain:=by split <;> rfl
noncomputable def qbi (d:D) (A B:Out α):Out α:=match d with
 | .bl b=>if b=true then A else B
 | _=>.bad
@[simp] theorem qfX {A B:Out α}:qbi (.bl b) A B=if b=true then A else B:=rfl
noncomputable def qhh (p:D×Sl):Out (Bool×Sl):=match p.1 with
 | .bl b=>.ok (b,p.2)
 | _=>.bad
variable {ρ:Sl}
@[simp] theorem qgH:qhh (.bl b,ρ)=.ok (b,ρ):=rfl
noncomputable def ZT (ms:List PM):Out (Fl×Sl)->Out (D×List D)
 | .ok (.nx,ρ)=>.ok (.non,qv ρ 0 ms)
 | .ok (.rt d,ρ)=>.ok (d,qv ρ 0 ms)
 | .ok _=>.bad
 | .exc c ρ=>.exc c ((qv ρ 0 ms).map some)
 | .bad=>.bad
variable {ms:List PM}
theorem runD_ap {f:Sl->Out (Fl×Sl)} {ds:List D}:jT N ms f ds=ZT ms (f (qu N ds)):=by
 unfold jT ZT
 rfl
@[simp] theorem qhi:ZT ms (.ok (.rt d,ρ))=.ok (d,qv ρ 0 ms):=rfl
@[simp] theorem qhj:ZT ms (.ok (.nx,ρ))=.ok (.non,qv ρ 0 ms):=rfl
@[simp] theorem qgI {c:Str}:ZT ms (.exc c ρ)=.exc c ((qv ρ 0 ms).map some):=rfl
@[simp] theorem qgJ [Decidable c] {a b:Out (Fl×Sl)}:ZT ms (if c then a else b)=if c then ZT ms a else ZT ms b:=by split <;> rfl
noncomputable def YW (as:List AK) (ρ:Sl):Out (D×List D)->Out (D×Sl)
 | .ok q=>.ok (q.1,qS as q.2 ρ)
 | .exc c o=>.exc c (qS as (o.map (·.getD .non)) ρ)
 | .bad=>.bad
variable {as:List AK}
@[simp] theorem qfY {q:D×List D}:YW as ρ (.ok q)=.ok (q.1,qS as q.2 ρ):=rfl
@[simp] theorem qeZ {c:Str} {o:Sl}:YW as ρ (.exc c o)=.exc c (qS as (o.map (·.getD .non)) ρ):=rfl
@[simp] theorem qe0 [Decidable c] {a b:Out (D×List D)}:YW as ρ (if c then a else b)=if c then YW as ρ a else YW as ρ b:=by split <;> rfl
variable {ρ:Sl}
@[simp] theorem Jv:ql i ρ=match ρ[i]? with | some (some d)=>.ok (d,ρ) | _=>.bad:=rfl
@[simp] theorem qe1:dC d ρ=.ok (d,ρ):=rfl
variable {gg:D->Sl->Out Sl}
section
variable {g g':D->D->Out D} {g1:D->Out D} {fb fc:Sl->Out (D×Sl)} {ft fu:Sl->Out (Bool×Sl)} {fr:Sl->Out (List D×Sl)} {fs ft1:Sl->Out (Fl×Sl)} {fi:Sl->Out (List D×Sl)} {G:List D->Out (D×List D)}
@[simp] theorem Vp:d1 g1 fa ρ=(fa ρ).bind fun p=>(g1 p.1).plain.bind fun d=>.ok (d,p.2):=rfl
@[simp] theorem Vq:d2 g fa fb ρ=(fa ρ).bind fun p=>(fb p.2).bind fun q=>(g p.1 q.1).plain.bind fun d=>.ok (d,q.2):=rfl
@[simp] theorem qgK:xZ f ρ=(f ρ).bind fun p=>(wm p.1).bind fun b=>.ok (b,p.2):=rfl
@[simp] theorem zJ:jl f ρ=(f ρ).bind qhh:=rfl
@[simp] theorem qgL:QD ft ρ=(ft ρ).bind fun p=>.ok (!p.1,p.2):=rfl
@[simp] theorem qfZ:qgE f ρ=(jl f ρ).bind fun p=>.ok (.bl (!p.1),p.2):=rfl
@[simp] theorem qgM:qcQ ft fu ρ=(ft ρ).bind fun p=>if p.1=true then fu p.2 else .ok (false,p.2):=rfl
@[simp] theorem qhk:dOr ft fu ρ=(ft ρ).bind fun p=>if p.1=true then .ok (true,p.2) else fu p.2:=rfl
@[simp] theorem qf0:KJ fa fb ρ=(fa ρ).bind fun p=>qbi p.1 (fb p.2) (.ok (.bl false,p.2)):=by
 unfold KJ
 cases fa ρ with
 | ok p=>
  obtain ⟨d,r⟩:=p
  cases d <;> try rfl
  rename_i b
  cases b <;> rfl
 | exc c o=>rfl
 | bad=>rfl
@[simp] theorem qgN:qg6 fa fb ρ=(fa ρ).bind fun p=>qbi p.1 (.ok (.bl true,p.2)) (fb p.2):=by
 unfold qg6
 cases fa ρ with
 | ok p=>
  obtain ⟨d,r⟩:=p
  cases d <;> try rfl
  rename_i b
  cases b <;> rfl
 | exc c o=>rfl
 | bad=>rfl
@[simp] theorem qhl:dIf ft fa fb ρ=(ft ρ).bind fun p=>if p.1=true then fa p.2 else fb p.2:=rfl
@[simp] theorem qe2:yC g g' fa fb fc ρ=(fa ρ).bind fun p=>(fb p.2).bind fun q=>(g p.1 q.1).plain.bind fun z=>qbi z ((fc q.2).bind fun r=>(g' q.1 r.1).plain.bind fun d=>.ok (d,r.2)) (.ok (.bl false,q.2)):=by
 unfold yC
 congr 1
 funext p
 congr 1
 funext q
 congr 1
 funext z
 cases z <;> try rfl
 rename_i b
 cases b <;> rfl
@[simp] theorem WB:qE ρ=.ok ([],ρ):=rfl
@[simp] theorem Jw:qd fa fr ρ=(fa ρ).bind fun p=>(fr p.2).bind fun q=>.ok (p.1::q.1,q.2):=rfl
@[simp] theorem UV:jQ fr ρ=(fr ρ).bind fun q=>.ok (D.non::q.1,q.2):=rfl
@[simp] theorem ZU:ua fr ρ=(fr ρ).bind fun p=>if p.1.length<=sizeLine then .ok (.tup p.1,p.2) else .bad:=rfl
@[simp] theorem ZV:wt fr ρ=(fr ρ).bind fun p=>if p.1.length<=sizeLine then .ok (.lst p.1,p.2) else .bad:=rfl
@[simp] theorem qf1:jt ρ=.ok (.nx,ρ):=rfl
@[simp] theorem WC:qZ fs ft1 ρ=(fs ρ).bind fun p=>match p.1 with | .nx=>ft1 p.2 | _=>.ok p:=by
 show _=_
 unfold qZ
 cases fs ρ with
 | ok p=>obtain ⟨fl,r⟩:=p; cases fl <;> rfl
 | exc c o=>rfl
 | bad=>rfl
@[simp] theorem Vr:sIf ft fs ft1 ρ=(ft ρ).bind fun p=>if p.1=true then fs p.2 else ft1 p.2:=rfl
@[simp] theorem qf2:vd f ρ=(f ρ).bind fun p=>.ok (.nx,p.2):=rfl
@[simp] theorem xy:jI f ρ=(f ρ).bind fun p=>.ok (.rt p.1,p.2):=rfl
@[simp] theorem gA:ka i f ρ=(f ρ).bind fun p=>if i < p.2.length then .ok (.nx,p.2.set i (some p.1)) else .bad:=rfl
@[simp] theorem UW:qx as G fr ρ=(fr ρ).bind fun p=>match qC as p.1 p.2 with | some ds=>YW as p.2 (G ds) | none=>.bad:=rfl
@[simp] theorem qgO:qhL f ρ=(f ρ).bind fun p=>(qeG p.1).bind fun ds=>.ok (ds,p.2):=rfl
@[simp] theorem qgP:vx f ρ=(f ρ).bind fun p=>(kf p.1).bind fun ds=>.ok (ds,p.2):=rfl
@[simp] theorem qhm:gNm i d ρ=if i < ρ.length then .ok (ρ.set i (some d)) else .bad:=rfl
@[simp] theorem ul:Wp fi gg fs ρ=(fi ρ).bind fun p=>wY gg fs p.1 p.2:=rfl
@[simp] theorem qgQ:qfR f gg ρ=(f ρ).bind fun p=>match gg p.1 p.2 with | .ok ρ'=>.ok (.nx,ρ') | _=>.bad:=rfl
@[simp] theorem qgR {gg:List D->D->Out (List D)}:Kp i gg f ρ=if uh ρ[i]?=true then (f ρ).bind fun p=>(match p.2[i]? with | some (some (.lst xs))=>(match gg xs p.1 with | .ok ys=>.ok (.non,p.2.set i (some (.lst ys))) | _=>.bad) | _=>.bad) else .bad:=rfl
@[simp] theorem qhn:ftT ρ=.ok (true,ρ):=rfl
end
end L2.D2
namespace L2.D2
open PySem PySem.Spec PyProof.Rows
def qdO (i j:Int):Prop:=(0<=j/\j<=64)/\-4611686018427387904 < i/\i < 4611686018427387904
instance:∀ i j,Decidable (qdO i j):=fun i j=>inferInstanceAs (Decidable (_/\_))
variable {X:Cx} {C:Ct}
section
theorem qbZ:OpR X (binaryOp .Pow) (rI qdO fun i j=>.int (i ^ j.toNat)):=opI fun i j _ _ _ _ _ hc q=>by
 obtain ⟨⟨h0,h1⟩,h2,h3⟩:=hc
 exact pow_int_small h0 (by omega) (by omega) q
noncomputable def qgS:D->D->Out D:=wZ fun i j=>if qdO i j then .ok (.int (i ^ j.toNat)) else .bad
theorem qe3:OpD X C .sh (binaryOp .Pow) qgS:=Uw qbZ fun _ _ _=>.int _
end
noncomputable def ZW (sep:Str):D->Out D
 | .lst ds=>match gy ds with
  | some ss=>if (ss.map (·.length)).sum+ss.length * sep.length<=16777216/\(eI sep ss).length<=sizeLine then .ok (.str (eI sep ss)) else .bad
  | none=>.bad
 | _=>.bad
variable {own:List Nat} {e:Expr} {m:Mo}
section
variable {fe:Sl->Out (D×Sl)} {apos cpos:Pos} {sep:Str}
theorem qdf:MtR X "str.join" (fun x vs H Q=>∃ (sep:Str) (a:Addr) (xs:List V) (ss:List Str),x=.str sep/\vs=[.ref a]/\SqL X.K H a xs/\(∀ us,Vals xs us->StrsAre us ss)/\(ss.map (·.length)).sum+ss.length * sep.length<=16777216/\Q (.str (eI sep ss)) H):=by
 intro pins s σ H x vs v us Q I rx rv h
 obtain ⟨sep,a,xs,ss,rfl,rfl,hq,hb,hz,q⟩:=h
 obtain ⟨t,rfl⟩:=rx
 obtain ⟨u,rfl,ru⟩:=rv.one
 cases ru
 obtain ⟨its,r,pl,_⟩:=I.list hq
 obtain ⟨o,n,ho,hc,hd,hdt⟩:=pl
 exact join_list ⟨o,ho,hc,n,hdt⟩ (by simpa using hb its r) hz fun t' k=>⟨.str (eI sep ss),H,I.tok _,⟨_,rfl⟩,q⟩
theorem qdg {c1 c2} (hK:C.K=X.K) (he:PE X e (tE C own m fe))
  (hbase:attributeBase (.Constant (.str sep) c1 c2) "join" X.env (eval (.Constant (.str sep) c1 c2) X.env)=eval (.Constant (.str sep) c1 c2) X.env:=by rfl)
  (hfew:((backTo cpos (starEach [e] X.env)).all (fun x=>!x.1)&&(backToKw cpos (keywordEach [] X.env)).all (fun x=>x.1.isSome)
   && decide ([e].length+([]:List Keyword).length+(if ([]:List Keyword).isEmpty then 0 else 1) < 30))=true:=by exact wo rfl)
  (hline:(apos.endLine == cpos.line)=true:=by rfl) (hs:starEach [e] X.env=[(false,eval e X.env)]:=by exact qY rfl) :
  PE X (.Call (.Attribute (.Constant (.str sep) c1 c2) "join" apos) [e] [] cpos) (tE C own .sh (d1 (ZW sep) fe)):=by
 refine jJ (YI PySem.F.plainAttrs_str PySem.F.slot_str_join PySem.F.type_str_join qdf qbW (qT he jM hs) hbase hfew hline hs rfl) fun σ H Q h=>?_
 refine ⟨rfl,?_⟩
 obtain ⟨F,ρ,rp,h⟩:=Wj (ma:=m) h
 refine ⟨F,ρ,rp,?_⟩
 cases q:fe ρ with
 | ok p=>
  rw [q] at h
  obtain ⟨d,ρ1⟩:=p
  intro v F1 H1 rp1 c1 mo1
  obtain ⟨F2,dx,sb,tx,po⟩:=h v F1 H1 rp1 c1 mo1
  cases dx <;> try exact po.elim
  rename_i ds
  unfold ZW at po
  cases q2:gy ds with
  | none=>simp only [q2] at po; exact po.elim
  | some ss=>
   simp only [q2] at po
   by_cases hz:(ss.map (·.length)).sum+ss.length * sep.length<=16777216/\(eI sep ss).length<=sizeLine
   ·rw [if_pos hz] at po
    obtain ⟨a,vs,rfl,hq,t⟩:=tx.lst sb
    have hq':SqL X.K H1 a vs:=by rw [<-hK]; exact hq
    exact ⟨sep,a,vs,ss,rfl,rfl,hq',fun us r=>(Js t r q2).1,hz.1,po _ F2 H1 sb .refl (.str hz.2)⟩
   ·rw [if_neg hz] at po
    exact po.elim
 | exc c=>rw [q] at h; exact h
 | bad=>rw [q] at h; exact h.elim
end
noncomputable def qe4 (ca:Str->Addr):List Str->Sl->Out (List D×Sl)
 | []=>qE
 | x::l=>qd (dC (.raw (.ref (ca x)))) (qe4 ca l)
theorem ZX (ca:Str->Addr) (ρ:Sl):∀ l:List Str,qe4 ca l ρ=.ok (l.map fun x=>D.raw (.ref (ca x)),ρ)
 | []=>rfl
 | x::l=>by
  unfold qe4 qd dC
  rw [Out.ok_bind,ZX ca ρ l]
  rfl
variable {α:Type}
theorem qdh {β:Type} (f:α->β) (xs:List α) (i:Int):atI (xs.map f) i=(atI xs i).map f:=by
 unfold atI ixN
 rw [aB]
 split
 ·split <;> simp
 ·split <;> simp
noncomputable def gB (as:List AK) (fi:Sl->Out (D×Sl)) (gs:List (List D->Out (D×List D))) (fr:Sl->Out (List D×Sl)):Sl->Out (D×Sl):=fun ρ=>(fi ρ).bind fun p=>match p.1 with
 | .int i=>match atI gs i with
  | some G=>qx as G fr p.2
  | none=>.bad
 | _=>.bad
def DsOk (P:Program) (w:World) (K:Frag) (mg:Str->Option Value) (base:Heap) (cv:Str->Value) (j:Nat) (ms:List PM) (mr:Mo):List Str->List (List D->Out (D×List D))->Prop
 | [],[]=>True
 | x::l,G::gs=>(∃ ps,DefOk P w K mg base cv j x ps ms mr G)/\DsOk P w K mg base cv j ms mr l gs
 | _,_=>False
variable {P:Program} {w:World} {K:Frag} {mg:Str->Option Value} {base:Heap} {cv:Str->Value} {j:Nat} {ms:List PM} {mr:Mo}
theorem DsOk.len:∀ {l:List Str} {gs:List (List D->Out (D×List D))},DsOk P w K mg base cv j ms mr l gs->l.length=gs.length
 | [],[],_=>rfl
 | _::_,_::_,h=>congrArg (·+1) h.2.len
 | [],_::_,h=>h.elim
 | _::_,[],h=>h.elim
theorem DsOk.get:∀ {l:List Str} {gs:List (List D->Out (D×List D))},DsOk P w K mg base cv j ms mr l gs->∀ (n:Nat) (G:List D->Out (D×List D)),gs[n]?=some G->∃ x ps,l[n]?=some x/\DefOk P w K mg base cv j x ps ms mr G
 | [],[],_,n,G,e=>by simp at e
 | x::_,_::_,h,0,G,e=>by
  simp at e
  subst e
  obtain ⟨ps,q⟩:=h.1
  exact ⟨x,ps,rfl,q⟩
 | _::_,_::_,h,n+1,G,e=>h.2.get n G (by simpa using e)
 | [],_::_,h,_,_,_=>h.elim
 | _::_,[],h,_,_,_=>h.elim
theorem qe5 {xs:List α} {i:Int} {d:α} (h:atI xs i=some d):∃ n:Nat,xs[n]?=some d/\∀ {β:Type} (ys:List β),ys.length=xs.length->atI ys i=ys[n]?:=by
 unfold atI at h
 cases q:ixN xs.length i with
 | none=>rw [q] at h; cases h
 | some n=>
  rw [q] at h
  refine ⟨n,h,fun ys hl=>?_⟩
  unfold atI
  rw [hl,q]
  rfl
variable {pos:Pos} {a:Addr}
section
variable {as:List AK} {fr:Sl->Out (List D×Sl)} {es:List Expr} {x:Str} {p:Pos} {k:Nat} {fi:Sl->Out (D×Sl)} {ca:Str->Addr} {ns:List Str} {gs:List (List D->Out (D×List D))} {v sl:Expr}
theorem ZY (hm:X.mg x=some (.ref a)) (hg:Gl X x) (hd:(x == ("__debug__":Str))=false:=by decide):PE X (.Name x pos) (tE C own .sh (dC (.raw (.ref a)))):=Za (v:=.ref a) hg hm rfl (fun _=>.raw _) hd
theorem UX {env:Env} {args:List Expr} {M:Model} {A:Around} {E:Value->Shared->Prop} {s:Shared} {Q:Value->Shared->Prop}
  (h:wpAny M A (eval (.Subscript v sl p) env) (fun f s₁=>wpAny M A (callWith pos f [] (backTo pos (starEach args env)) (backToKw pos (keywordEach [] env))) Q E s₁) E s) :
  wpAny M A (eval (.Call (.Subscript v sl p) args [] pos) env) Q E s:=by
 have e:eval (.Call (.Subscript v sl p) args [] pos) env=(do
  callWith pos (<-eval (.Subscript v sl p) env) [] (backTo pos (starEach args env)) (backToKw pos (keywordEach [] env))):=rfl
 rw [e]
 exact wpAny_bind h
theorem ZZ (DD:DsOk X.prog X.w X.K X.mg X.base cv j ms mr ns gs) (hm:∀ x∈ns,X.mg x=some (.ref (ca x))) (hz:ns.length<=sizeLine) (hr:Room k X.A) (hj:j<=k) (hx:vY (CXk X.prog X.w) X C.E)
  (hf:PE X (.Subscript v sl p) (tE C own .sh (d2 ixD (wt (qe4 ca ns)) fi))) (ha:PA X (e::es) (tAr C own as fr)) (hcv:C.cv=cv:=by rfl) (hK:C.K=X.K:=by rfl) (hms:ms=as.map QE:=by rfl) (hs:∀ i∈jj as,i∈own:=by decide) (nd:(jj as).Nodup:=by decide) (hfr:frA as<=1:=by decide) (hio:∀ i∈C.ox,i∈own:=by exact vZ rfl)
  (he:starEach (e::es) X.env=(false,eval e X.env)::starEach es X.env:=by exact jP rfl) (hpl:(backTo pos (starEach es X.env)).any (·.1)=false:=by exact uH rfl) :
  PE X (.Call (.Subscript v sl p) (e::es) [] pos) (tE C own mr (gB as fi gs fr)):=by
 subst hms hcv
 refine ⟨?_⟩
 intro pins s σ H Q I h
 obtain ⟨F,ρ,rp,h⟩:=h
 have ed:wt (qe4 ca ns) ρ=.ok (.lst (ns.map fun x=>.raw (.ref (ca x))),ρ):=by
  unfold wt
  rw [ZX,Out.ok_bind,if_pos (by rw [aB]; exact hz)]
 unfold gB at h
 cases q:fi ρ with
 | bad=>rw [q] at h; exact h.elim
 | exc c ρ1=>
  rw [q] at h
  refine UX (thn (hf pins s σ H (fun _ _=>False) I ⟨F,ρ,rp,?_⟩) fun _ _ ⟨_,_,_,_,z⟩=>z.elim)
  unfold d2
  rw [ed,Out.ok_bind]
  show Po C own .sh σ F H ((fi ρ).bind _) _
  rw [q]
  exact h
 | ok pr=>
  obtain ⟨d,ρ1⟩:=pr
  rw [q,Out.ok_bind] at h
  cases d <;> try exact h.elim
  rename_i i
  cases qg:atI gs i with
  | none=>simp only [qg] at h; exact h.elim
  | some G=>
   simp only [qg] at h
   obtain ⟨n,h1,h2⟩:=qe5 qg
   obtain ⟨x,ps,hx1,f,fd,FF,hmg,hk,hb⟩:=DD.get n G h1
   have hxm:=hm x (cA hx1)
   obtain rfl:f=ca x:=by
    rw [hxm] at hmg
    cases hmg
    rfl
   have hat:atI (ns.map fun x=>(D.raw (.ref (ca x)))) i=some (.raw (.ref (ca x))):=by
    rw [qdh,h2 ns DD.len,hx1]
    rfl
   refine UX (thn (hf pins s σ H (fun y H1=>y=.ref (ca x)/\tE C own mr (qx as G fr) σ H1 Q) I ⟨F,ρ,rp,?_⟩) fun w s1 ⟨y,H1,I1,r1,⟨ey,h3⟩⟩=>?_)
   ·unfold d2
    rw [ed,Out.ok_bind]
    show Po C own .sh σ F H ((fi ρ).bind _) _
    rw [q,Out.ok_bind]
    show Po C own .sh σ F H ((ixD (.lst (ns.map fun x=>.raw (.ref (ca x)))) (.int i)).plain.bind _) _
    unfold ixD
    simp only [hat]
    intro y F' H' rp' c' mo
    refine ⟨?_,F',ρ1,rp',Po.shift h c'⟩
    have mo:Is C.K F' y (.raw (.ref (ca x))):=mo
    cases mo
    rfl
   ·subst ey
    cases r1
    have h4:=Wo hio hs nd hfr h3
    refine dW (h₀:=X.base) I1.ok.mod.kin hk (thn (ha pos pins s1 σ H1 _ I1 h4) fun us s2 ⟨vs,H2,I2,r,q2⟩=>⟨I2.kIn,?_⟩) he hpl
    exact qb1 (FF.mono hj) hr hb .nil hx I2 r (by rw [<-hK]; exact q2)
end
noncomputable def qdT:Sl->Out (Fl×Sl):=fun _=>.bad
section
variable {own':List Nat} {sts:List Stmt}
theorem gC:PSs X sts (tSt C own own' qdT):=by
 refine ⟨?_⟩
 intro pins s σ H D I h
 obtain ⟨_,_,_,h⟩:=h
 exact h.elim
end
variable {xs:List V}
theorem UY {us:List Value} (r:Vals xs us):∀ n:Nat,Vals (aE n xs).flatten (aE n us).flatten
 | 0=>.nil
 | n+1=>by
  rw [bO,bO,bX,bX]
  exact r.append (UY r n)
variable {F:Hp} {ds:List D}
theorem Ga {vs:List V} (r:IsL K F vs ds):∀ n:Nat,IsL K F (aE n vs).flatten (aE n ds).flatten
 | 0=>.nil
 | n+1=>by
  rw [bO,bO,bX,bX]
  exact r.append (Ga r n)
theorem Gb (l:List α):∀ n:Nat,(aE n l).flatten.length=l.length * n
 | 0=>by simp
 | n+1=>by rw [bO,bX,af,Gb l n,Nat.mul_succ,Nat.add_comm]
noncomputable def qar:D->D->Out D
 | .lst ds,.int n=>if (0<=n/\n<=100000)/\ds.length * n.toNat<=1000000 then .ok (.lst (aE n.toNat ds).flatten) else .bad
 | _,_=>.bad
section
theorem Jx (hK:C.K=X.K):OpD X C .fr (binaryOp .Mult) qar:=by
 intro pins s σ H x y v u Q I rx ry h
 obtain ⟨F,dx,dy,sb,tx,ty,po⟩:=h
 cases dx <;> try exact po.elim
 cases dy <;> try exact po.elim
 rename_i ds n
 unfold qar at po
 by_cases hz:(0<=n/\n<=100000)/\ds.length * n.toNat<=1000000
 ·simp only [if_pos hz] at po
  obtain ⟨a,xs,rfl,p,il⟩:=tx.lst sb
  obtain rfl:=ty.int
  cases rx
  obtain ⟨t,rfl⟩:=ry
  rw [hK] at p
  obtain ⟨its,r,pl,_⟩:=I.list p
  have hlen:its.length=ds.length:=by rw [<-r.length,il.length]
  obtain ⟨⟨cls,d,data,sl⟩,k,ho,hc,hd,hdt⟩:=pl
  simp only at hc hd hdt
  subst hc hdt
  have hq:H s.heap.objs.size=none:=I.hok.fresh (ao _)
  obtain ⟨s2,c2,f2⟩:=vf (u:=.lst (aE n.toNat xs).flatten) sb hq
  have hw:(aE n.toNat xs).flatten.length<=sizeLine:=by rw [Gb,il.length,sizeLine_eq]; omega
  refine wpAny_binaryOp_repeat_ref (T := "list") (U := "int") (by decide) ⟨_,ho,rfl⟩ (fun s'=>typeIs_int s' n t) noFill_list_mul PySem.F.fills_int_mul PySem.F.slot_int_rmul repeat_list PySem.F.slot_int_index.lookup
   (call_meets PySem.F.slot_int_rmul (typeIs_int s n t) PySem.F.entry_int_rmul (PySem.F.args_int_rmul_2 _ _) (lm_int_rmul_list_any n t a its.toArray k d sl)
    ⟨ho,rfl,⟨_,ho,rfl⟩,call_meets PySem.F.slot_list_mul ⟨_,ho,rfl⟩ PySem.F.entry_list_mul (PySem.F.args_list_mul_2 _ _)
     (lm_list_mul_any a its.toArray k d sl n t (by simp [Builtin.List.listFitsIndex]; omega) (by rw [ak,hlen]; omega) (by simp [cF,sizeLine]; rw [hlen]; omega))
     ⟨ho,?_⟩⟩)
  refine ⟨.ref s.heap.objs.size,_,I.laid (t':=s.toks) (o:=.lst (aE n.toNat xs).flatten) (fun b o e=>aa _ e) (ao _) ⟨hw,(aE n.toNat its).flatten,0,UY r _,?_⟩,rfl,po _ _ _ s2 c2 ⟨_,rfl,hq,f2,_,qw,Ga il _⟩⟩
  rw [listMul_foldl_if]
  exact ah _ rfl
 ·simp only [if_neg hz] at po
  exact po.elim
end
def qe6 (i j:Int):Prop:=(-(2 ^ 62)<=i/\i < 2 ^ 62)/\-(2 ^ 62)<=j/\j < 2 ^ 62
instance:∀ i j,Decidable (qe6 i j):=fun i j=>inferInstanceAs (Decidable (_/\_))
variable {fa:Sl->Out (D×Sl)} {ma:Mo} {lo:Int}
section
variable {a b tg:Expr} {fb:Sl->Out (D×Sl)} {mb:Mo}
theorem Gc:∀ {xs:List V} {us:List Value},xs.length=us.length->(∀ (j:Nat) (x:V) (u:Value),xs[j]?=some x->us[j]?=some u->RelV x u)->Vals xs us
 | [],[],_,_=>.nil
 | x::xs,u::us,hl,h=>.cons (h 0 x u rfl rfl) (Gc (Nat.succ.inj hl) fun j y w a b=>h (j+1) y w (by simpa using a) (by simpa using b))
 | [],_::_,hl,_=>nomatch hl
 | _::_,[],hl,_=>nomatch hl
noncomputable def qf3 (p:Addr) (lo hi:Int):HO:=.ext fun h=>∃ t u v,IsRange h p lo hi 1 t u v
theorem qdi {H:Hp} {h:Heap} {p:Addr} {hi:Int} {t u v:Tok} (x:IsRange h p lo hi 1 t u v):ObjOk P w H h p (qf3 p lo hi):=
 ⟨⟨t,u,v,x⟩,⟨_,x⟩,fun _ _ ⟨t,u,v,x⟩ k=>⟨t,u,v,k _ x⟩⟩
theorem Gd:ub X (.type "range") (fun xs H Q=>∃ j:Int,xs=[.int j]/\∀ p,H p=none->Q (.ref p) (upd H p (qf3 p 0 j))):=by
 intro pins s σ H xs us Q I r h
 obtain ⟨j,rfl,q⟩:=h
 obtain ⟨u,rfl,ru⟩:=yi r
 obtain ⟨t,rfl⟩:=ru
 exact call_range_1 ⟨.ref s.heap.objs.size,_,I.laid (t':=s.toks+1+1) (fun b o e=>aa _ e) (ao _) (qdi (IsRange.new ..)),rfl,q _ (I.hok.fresh (ao _))⟩
theorem qbj (hc:X.calm=true):ub X (.type "list") (fun xs H Q=>∃ r lo hi,xs=[.ref r]/\H r=some (qf3 r lo hi)/\(qe6 lo hi/\hi - lo<=1000000)/\∀ p,H p=none->Q (.ref p) (upd H p (.lst ((aQ (hi - lo).toNat).map fun k=>V.int (lo+(k:Nat)))))):=by
 intro pins s σ H xs us Q I r h
 obtain ⟨a,lo,hi,rfl,ha,hz,q⟩:=h
 obtain ⟨u,rfl,ru⟩:=yi r
 cases ru
 obtain ⟨t,u,v,hr⟩:=(I.hok a _ ha).1
 have e2:Builtin.Range.rangeSize lo hi 1=(((hi - lo).toNat:Nat):Int):=by rw [rangeSize_one]; split <;> omega
 refine call_list_range (n:=(hi - lo).toNat) (I.ok.hd hc) hr (small_one hz.1.1.1 hz.1.1.2 hz.1.2.1 hz.1.2.2) e2 (by omega) fun h' tk acc c k hp hi2=>?_
 refine ⟨.ref s.heap.objs.size,_,I.laid (t':=tk) (o:=.lst ((aQ (hi - lo).toNat).map fun k=>V.int (lo+(k:Nat)))) k (ao _) ⟨by rw [aB,cB,sizeLine_eq]; omega,acc.toList,c,?_,by simpa using hp⟩,rfl,q _ (I.hok.fresh (ao _))⟩
 refine Gc (by rw [aB,cB,bz,hi2.1]) fun j x w ex ew=>?_
 rw [aH] at ex
 obtain ⟨k,ek,rfl⟩:=aR.mp ex
 obtain ⟨hj,rfl⟩:=au.mp ek
 obtain ⟨t,rfl⟩:=hi2.2 j w (by simpa using ew)
 exact ⟨t,by simp⟩
noncomputable def yR:D->Out D
 | .int j=>if qe6 0 j/\j - 0<=1000000 then .ok (.lst (QF 0 (j - 0).toNat)) else .bad
 | _=>.bad
theorem Ge:∀ l:List Nat,IsL K F (l.map fun k=>V.int (lo+(k:Nat))) (l.map fun k=>D.int (lo+(k:Nat)))
 | []=>.nil
 | k::l=>.cons (.int _) (Ge l)
theorem YX {p p2 pos2:Pos} (hc:X.calm=true) (hg:Gl X "list") (hm:X.mg "list"=none) (hv:bootBuiltins "list"=some (.type "list")) (hg2:Gl X "range") (hm2:X.mg "range"=none) (hv2:bootBuiltins "range"=some (.type "range")) (ha:PE X e (tE C own ma fa))
  (he:starEach [e] X.env=[(false,eval e X.env)]:=by exact qY rfl) (he2:starEach [.Call (.Name "range" p2) [e] [] pos2] X.env=[(false,eval (.Call (.Name "range" p2) [e] [] pos2) X.env)]:=by exact qY rfl) :
  PE X (.Call (.Name "list" p) [.Call (.Name "range" p2) [e] [] pos2] [] pos) (tE C own .fr (d1 yR fa)):=by
 refine jJ (uc (qbj hc) hg hm hv (qT (uc Gd hg2 hm2 hv2 (qT ha jM he) (by decide) (by decide) (by rw [he]; rfl) rfl) jM he2) (by decide) (by decide) (by rw [he2]; rfl) rfl) fun σ H Q h=>?_
 refine WA (xq (ma:=ma) h) fun x H1 ⟨x',F,dx,ex,sb,tx,po⟩=>?_
 cases ex
 cases dx <;> try exact po.elim
 rename_i j
 unfold yR at po
 by_cases hz:qe6 0 j/\j - 0<=1000000
 ·simp only [if_pos hz] at po
  obtain rfl:=tx.int
  refine ⟨j,rfl,fun q hq=>⟨q,0,j,rfl,qw,hz,fun l hl2=>?_⟩⟩
  obtain ⟨s1,c1,f1⟩:=vf (u:=qf3 q 0 j) sb hq
  obtain ⟨s2,c2,f2⟩:=vf (u:=.lst ((aQ (j - 0).toNat).map fun k=>V.int (0+(k:Nat)))) s1 hl2
  have hl1:H1 l=none:=by
   by_cases z:l=q
   ·rw [z] at hl2
    rw [qw] at hl2
    cases hl2
   ·rwa [qD z] at hl2
  exact po _ _ _ s2 (c1.trans' c2) ⟨l,rfl,hl1,f2,_,qw,Ge _⟩
 ·simp only [if_neg hz] at po
  exact po.elim
end
noncomputable def Ite (K:Frag) (a:Addr) (xs:List V):It:=
 ⟨fun i H=>i < xs.length/\SqL K H a xs,fun i H v H'=>∃ x p,xs[i]?=some x/\H p=none/\v=.ref p/\H'=upd H p (.tup [.int (i:Nat),x]),fun i H=>xs.length<=i/\SqL K H a xs⟩
theorem Gf {P:Program} {w:World} {K:Frag} {elts:List Expr} {x1} {pos:Pos} (b a:Nat) (xs:List V) (h1:a < b) :
  Turn P w K (.Tuple elts x1 pos) (Ite K a xs) [b+1,b] (b+1) (fun i h=>(∃ old,IsEnum h (b+1) b i old)/\h.IsListIter b a i) where
 mem:=by simp
 obj:=fun i h st c hc=>by
  obtain ⟨⟨old,he⟩,o,ho,hcl,hd⟩:=st
  simp only [ac,aO,or_false] at hc
  rcases hc with rfl | rfl
  ·exact ⟨_,he,fun v z=>by cases z⟩
  ·exact ⟨o,ho,fun v z=>by rw [hd] at z; cases z⟩
 keep:=fun i h h' st k=>by
  obtain ⟨⟨old,he⟩,o,ho,hcl,hd⟩:=st
  exact ⟨⟨old,k _ (by simp) _ he⟩,o,k _ (by simp) _ ho,hcl,hd⟩
 item:=by
  intro X hP hw hK hc i pins s σ H E I hf st hg
  subst hP hw hK
  obtain ⟨⟨old,he⟩,hit⟩:=st
  obtain ⟨hl,q⟩:=hg
  obtain ⟨its,r,pl,_⟩:=I.list q
  have hi:i < its.length:=by rw [<-r.length]; exact hl
  have hx:its.toArray[i]?=some its[i]:=by simp [hi]
  refine wpAny_pyNext_enum_item he hit pl.isList hx (Nat.succ_ne_self b) fun h' eo it' tp hz kp=>?_
  refine ⟨_,rfl,wpAny_letOwnedTupleGo_enum eo fun hq e2 sb2=>?_⟩
  obtain ⟨x,ex,rx⟩:=ZP r (aG hi)
  have hT:H s.heap.objs.size=none:=I.hok.fresh (ao _)
  have lt1:b+1 < s.heap.objs.size:=am he
  have fT:∀ c∈[b+1,b],c≠s.heap.objs.size:=fun c hc=>by
   simp only [ac,aO,or_false] at hc
   have lt':b+1 < s.heap.objs.size:=lt1
   generalize s.heap.objs.size=m at lt'
   intro z
   omega
  have I1:Inv X pins σ (upd H s.heap.objs.size (.tup [.int (i:Nat),x])) { s with heap:=s.heap.push { cls:=.type "tuple",data:=.seq #[.int i s.toks,its[i]] } }:=
   I.laid (t':=s.toks) (fun _ _ e=>aa _ e) (ao _) ⟨⟨by simp only [aq,bq]; rw [sizeLine_eq]; decide,_,ah _ rfl,rfl⟩,[.int i s.toks,its[i]],.cons ⟨_,rfl⟩ (.cons rx .nil),⟨_,ah _ rfl,rfl,_,rfl⟩⟩
  have I2:Inv X pins σ (upd H s.heap.objs.size (.tup [.int (i:Nat),x])) { s with heap:=hq,toks:=s.toks+1 }:=by
   refine ZO (s:={ s with heap:=s.heap.push { cls:=.type "tuple",data:=.seq #[.int i s.toks,its[i]] } }) (ch:=[b+1,b]) I1 (fun c o nc e=>?_) fun c hc=>⟨by rw [qD (fT c hc)]; exact (hf c hc).1,(hf c hc).2⟩
   simp only [ac,aO,or_false,not_or] at nc
   rw [sb2.2 c nc.1]
   by_cases ec:c=s.heap.objs.size
   ·subst ec
    have e3:(s.heap.push ({ cls:=.type "tuple",data:=.seq #[.int i s.toks,its[i]] }:Obj)).get? s.heap.objs.size=some { cls:=.type "tuple",data:=.seq #[.int i s.toks,its[i]] }:=ah _ rfl
    rw [show (s.heap.push ({ cls:=.type "tuple",data:=.seq #[.int i s.toks,its[i]] }:Obj)).get? s.heap.objs.size=some o from e] at e3
    rw [e3]
    exact tp
   ·have e4:s.heap.get? c=some o:=by
     have:=e
     rwa [show (s.heap.push ({ cls:=.type "tuple",data:=.seq #[.int i s.toks,its[i]] }:Obj)).get? c=s.heap.get? c from Heap.get?_push_ne _ _ _ ec] at this
    exact kp c o nc.1 nc.2 e4
  refine ⟨.ref s.heap.objs.size,_,I2,rfl,⟨x,_,ex,hT,rfl,rfl⟩,⟨⟨_,by simpa using e2⟩,?_⟩,fun c hc=>by rw [qD (fT c hc)]; exact (hf c hc).1⟩
  obtain ⟨o,ho,hcl,hd⟩:=it'
  exact ⟨o,(sb2.2 _ (Nat.succ_ne_self b).symm).trans ho,hcl,hd⟩
 done:=by
  intro X hP hw hK hc i pins s σ H E I hf st hg
  subst hP hw hK
  obtain ⟨⟨old,he⟩,hit⟩:=st
  obtain ⟨hl,q⟩:=hg
  obtain ⟨its,r,pl,_⟩:=I.list q
  refine wpAny_pyNext_enum_end (I.ok.hd hc) he hit pl.isList (by simp; rw [<-r.length]; exact hl) fun h' ex=>⟨rfl,ZO (t':=s.toks) (ch:=[b+1,b]) I (fun c o nc e=>?_) hf⟩
  simp only [ac,aO,or_false,not_or] at nc
  exact ex c o nc.2 e
 self:=fun _ _ _ _ _ st h=>wpAny_pyIter_enum st.1.choose_spec h
theorem Gg:bootBuiltins "enumerate"=some (.type "enumerate"):=by decide +kernel
noncomputable def Jy (xs:List D):List D:=(xs.zipIdx).map fun p=>.tup [.int (p.2:Nat),p.1]
noncomputable def YY (f:Sl->Out (D×Sl)):Sl->Out (List D×Sl):=fun ρ=>(f ρ).bind fun p=>match p.1 with
 | .lst xs=>.ok (Jy xs,p.2)
 | _=>.bad
theorem qe7 (p:SqL K F a xs) (t:IsL K F xs ds):ItIs K F (Ite K a xs) (Jy ds) where
 go:=fun i H hi s=>by
  unfold Jy at hi
  rw [aB,List.length_zipIdx] at hi
  exact ⟨by rw [t.length]; exact hi,s.seq p⟩
 yld:=fun i Fi H v H' d e s1 s2 y=>by
  obtain ⟨x,q,hx,hn,rfl,rfl⟩:=y
  obtain ⟨d1,e1,i1⟩:=t.get hx
  have ed:d=.tup [.int (i:Nat),d1]:=by
   unfold Jy at e
   rw [aH,List.getElem?_zipIdx,e1] at e
   simpa using e.symm
  subst ed
  obtain ⟨g1,g2⟩:=wu (u:=.tup [.int (i:Nat),x]) s2 hn
  exact ⟨_,g2,g1,.tup (.of qw) (.cons (.int _) (.cons ((i1.mono s1).mono g2.grow) .nil))⟩
 stop:=fun i H hi s=>by
  unfold Jy at hi
  rw [aB,List.length_zipIdx] at hi
  exact ⟨by rw [t.length]; exact hi,s.seq p⟩
section
variable {a:Expr}
theorem qdj {ta:TA} {p tpos:Pos} {elts:List Expr} {x1} (hg:Gl X "enumerate") (hm:X.mg "enumerate"=none) (ha:PA X [a] ta) (hs:starEach [a] X.env=[(false,eval a X.env)]) :
  PI X (.Tuple elts x1 tpos) (.Call (.Name "enumerate" p) [a] [] pos) (fun σ H R=>ta σ H fun vs H1=>∃ a1 xs,vs=[.ref a1]/\SqL X.K H1 a1 xs/\R (Ite X.K a1 xs) H1):=by
 refine ⟨?_⟩
 intro pins s σ H R I h
 refine Call_ (zX I hg hm Gg (bF (thn (ha pos pins s σ H _ I h) fun us s1 ⟨vs,H1,I1,r1,q1⟩=>?_) hs rfl))
 obtain ⟨a1,xs,rfl,w1,q⟩:=q1
 obtain ⟨u1,rfl,e1⟩:=yi r1
 cases e1
 obtain ⟨its,v1,pl,_⟩:=I1.list w1
 have hlt:a1 < s1.heap.objs.size:=let ⟨o,_,e,_⟩:=pl; am e
 refine call_enumerate_list pl.isList fun h' he hit hz kp=>?_
 refine wpAny_pyIter_enum he ?_
 refine ⟨s1.heap.objs.size+1,_,_,Ite X.K a1 xs,H1,rfl,I1.kept (t':=s1.toks) kp,Gf s1.heap.objs.size a1 xs hlt,⟨⟨_,he⟩,hit⟩,fun b hb=>?_,q⟩
 have hle:s1.heap.objs.size<=b:=by
  simp only [ac,aO,or_false] at hb
  rcases hb with rfl | rfl
  ·exact Nat.le_add_right _ _
  ·exact ao _
 exact I1.fpOk hle (I1.hok.fresh hle)
theorem UZ {p tpos:Pos} {elts:List Expr} {x1} (hK:C.K=X.K) (hg:Gl X "enumerate") (hm:X.mg "enumerate"=none) (ha:PE X a (tE C own ma fa)) (h1:ma≠.any:=by decide) (hs:starEach [a] X.env=[(false,eval a X.env)]:=by exact qY rfl) :
  PI X (.Tuple elts x1 tpos) (.Call (.Name "enumerate" p) [a] [] pos) (tIt C own (YY fa)):=by
 refine qcY (qdj hg hm (qT (yk ha h1) jM hs) hs) fun σ H R ⟨F,ρ,rp,h⟩=>⟨F,ρ,rp,PoI.bindV h fun v F1 H1 d ρ1 rp1 c1 mo1 h1=>?_⟩
 have mo1:Is C.K F1 v d:=mo1
 cases mo1 with
 | lst p t=>exact ⟨_,_,rfl,by rw [<-hK]; exact rp1.sub.seq p,by rw [<-hK]; exact h1 _ F1 H1 rp1 c1 (qe7 p t)⟩
 | _=>exact h1.elim
end
mutual
def qe8:Nat->Expr->Option D
 | 0,_=>none
 | n+1,e=>match e with
  | .Constant c _ _=>match c with
   | .none=>some .non
   | .bool b=>some (.bl b)
   | .int i=>some (.int i)
   | .str x=>if x.length<=sizeLine then some (.str x) else none
   | _=>none
  | .UnaryOp .USub (.Constant (.int i) _ _) _=>some (.int (-i))
  | .List es _=>(qdU n es).bind fun ds=>if ds.length<=sizeLine then some (.lst ds) else none
  | .Tuple es _ _=>(qdU n es).bind fun ds=>if ds.length<=sizeLine then some (.tup ds) else none
  | _=>none
def qdU:Nat->List Expr->Option (List D)
 | _,[]=>some []
 | 0,_::_=>none
 | n+1,e::es=>(qe8 n e).bind fun d=>(qdU n es).bind fun ds=>some (d::ds)
end
theorem Yb {α:Type}:∀ l:List α,((l.map fun _=>AK.vl).all fun a=>decide (a=.vl))=true
 | []=>rfl
 | _::l=>by rw [aF,fk,Yb l]; rfl
theorem Gh {n:Nat} {e:Expr} {d:D} (h:qe8 n e=some d):XZ e=true:=by
 cases n with
 | zero=>cases h
 | succ n=>cases e <;> first | rfl | (simp [qe8] at h)
section
variable {X:Cx} {C:Ct} {own:List Nat}
mutual
theorem qb9:∀ (n:Nat) {e:Expr} {d:D},qe8 n e=some d->PE X e (tE C own .sh (dC d))
 | 0,_,_,h=>by cases h
 | n+1,e,d,h=>by
  unfold qe8 at h
  split at h
  ·split at h
   ·cases h; exact QC
   ·cases h; exact yB
   ·cases h; exact qt
   ·split at h
    ·rename_i hz
     cases h
     exact kL hz
    ·cases h
   ·cases h
  ·cases h
   exact jJ (KH zb qt) fun σ H Q h=>h
  ·obtain ⟨ds,h1,h2⟩:=bW.mp h
   split at h2
   ·rename_i hz
    cases h2
    have e2:wt (fun ρ=>.ok (ds,ρ))=dC (.lst ds):=by
     funext ρ
     unfold wt dC
     rw [Out.ok_bind,if_pos hz]
    rw [<-e2]
    exact yk (jC (Jz n h1) (Yb _)) (by decide)
   ·cases h2
  ·obtain ⟨ds,h1,h2⟩:=bW.mp h
   split at h2
   ·rename_i hz
    cases h2
    have e2:ua (fun ρ=>.ok (ds,ρ))=dC (.tup ds):=by
     funext ρ
     unfold ua dC
     rw [Out.ok_bind,if_pos hz]
    rw [<-e2]
    exact jB (Jz n h1) (Yb _)
   ·cases h2
  ·cases h
theorem Jz:∀ (n:Nat) {es:List Expr} {ds:List D},qdU n es=some ds->PA X es (tAr C own (es.map fun _=>.vl) fun ρ=>.ok (ds,ρ))
 | 0,[],ds,h=>by
  cases h
  exact qf
 | _+1,[],ds,h=>by
  cases h
  exact qf
 | 0,_::_,ds,h=>by cases h
 | n+1,e::es,ds,h=>by
  unfold qdU at h
  obtain ⟨d,h1,h⟩:=bW.mp h
  obtain ⟨ds',h2,h⟩:=bW.mp h
  cases h
  have e2:qd (dC d) (fun ρ=>.ok (ds',ρ))=fun ρ=>.ok (d::ds',ρ):=rfl
  rw [<-e2]
  exact qc (qb9 n h1) (Jz n h2) (by decide) (jP (Gh h1))
end
theorem wA {es:List Expr} {ds:List D} {pos:Pos} (n:Nat) (h:qdU n es=some ds):PE X (.List es pos) (tE C own .fr (wt fun ρ=>.ok (ds,ρ))):=jC (Jz n h) (Yb _)
end
noncomputable def txI (i:Int):Str:=toString i
def CTx (i:Int):Prop:=i.natAbs.log2 < 1920/\(txI i).length<=sizeLine
instance:∀ i,Decidable (CTx i):=fun i=>inferInstanceAs (Decidable (_/\_))
end L2.D2
namespace PySem
open Builtin Builtin.Str
end PySem
namespace L2.D2
open PySem PySem.Spec PyProof.Rows
def qhO (x y:Str):Prop:=(y.length == 0)=false/\(Txt.split x y).length<=sizeLine/\∀ z∈Txt.split x y,z.length<=sizeLine
instance:∀ x y,Decidable (qhO x y):=fun x y=>inferInstanceAs (Decidable (_/\_))
inductive IntsAre:List Value->List Int->Prop
 | nil:IntsAre [] []
 | cons (y:Int) (t:Tok) {vs:List Value} {ys:List Int} (h:IntsAre vs ys):IntsAre (fj y t::vs) (y::ys)
theorem IntsAre.item:∀ {vs:List Value} {ys:List Int},IntsAre vs ys->∀ (i:Nat) (v:Value),vs[i]?=some v->∃ y t,v=fj y t/\ys[i]?=some y
 | _,_,.nil,i,v,e=>by simp at e
 | _,_,.cons y t h,0,v,e=>by simp at e; subst e; exact ⟨y,t,rfl,rfl⟩
 | _,_,.cons y t h,i+1,v,e=>by
  obtain ⟨z,t',e1,e2⟩:=h.item i v (by simpa using e)
  exact ⟨z,t',e1,by simpa using e2⟩
variable {K:Frag} {F H:Hp}
section
theorem TopIs.ins {v:V} {c:Addr} {fs:List (Str×D)} (s:Same F H) (h:TopIs K F H v (.ins c fs)):∃ a dx fv,v=.ref a/\H a=some (.ins c dx fv)/\IsF K F fv fs:=by
 rcases h with h | ⟨a,rfl,dx,fv,e,t⟩
 ·cases h with
  | ins e t=>exact ⟨_,_,_,rfl,s _ _ e,t⟩
 ·exact ⟨a,dx,fv,rfl,e,t⟩
end
variable {own:List Nat} {σ:St} {ρ:Sl} {i:Nat} {b:Addr}
section
variable {own1:List Nat}
theorem Rep.frz {o:HO} (rp:Rep K own F H σ ρ) (hb:H b=some o) (hF:F b=none) (nA:¬OA own σ b):Rep K own (upd F b o) H σ ρ:=by
 have gr:Same F (upd F b o):=fun c w e=>by rw [qD (qK e hF)]; exact e
 refine ⟨fun c w e=>?_,rp.len,fun j d hj e=>?_,fun j d hj e=>?_,rp.opn,rp.dis⟩
 ·by_cases q:c=b
  ·subst q; rw [qw] at e; cases e; exact hb
  ·rw [qD q] at e; exact rp.sub c w e
 ·obtain ⟨v,h1,h2⟩:=rp.val j d hj e
  exact ⟨v,h1,h2.mono gr⟩
 ·obtain ⟨a,h1,h2,h3⟩:=rp.ow j d hj e
  exact ⟨a,h1,by rw [qD (fun z=>nA ⟨j,hj,by rw [<-z]; exact h1⟩)]; exact h2,h3.grow gr fun _ q=>q⟩
end
noncomputable def zi (x:Str):List V:=x.cps.toList.map fun c=>.str ⟨#[c]⟩
theorem QO:∀ (cs:List Nat) (us:List Value),us.length=cs.length->(∀ (j:Nat) (v:Value),us[j]?=some v->∃ c u,cs[j]?=some c/\v=dS ⟨#[c]⟩ u)->Vals (cs.map fun c=>V.str ⟨#[c]⟩) us
 | [],[],_,_=>.nil
 | [],_::_,h,_=>by cases h
 | _::_,[],h,_=>by cases h
 | c::cs,u::us,h,k=>by
  obtain ⟨c',t,e1,e2⟩:=k 0 u rfl
  cases e1
  refine .cons ⟨t,e2⟩ (QO cs us (by simpa using h) fun j v e=>?_)
  simpa using k (j+1) v (by simpa using e)
variable {x:Str}
theorem YZ {acc:Array Value} (h:ItemsOf (SignAt x) acc x.cps.size):Vals (zi x) acc.toList:=by
 refine QO _ _ (by simpa using h.1) fun j v e=>?_
 obtain ⟨c,u,e1,e2⟩:=h.2 j v (by rw [<-aU]; exact e)
 exact ⟨c,u,by simpa using e1,e2⟩
theorem Gi (x:Str):IsL K F (zi x) (zw x):=by
 unfold zi zw
 induction x.cps.toList with
 | nil=>exact .nil
 | cons c cs ih=>exact .cons (.str (show 1<=sizeLine by rw [sizeLine_eq]; decide)) ih
noncomputable def WD:D->Out D
 | .str x=>.ok (.tup (zw x))
 | _=>.bad
variable {X:Cx} {C:Ct}
section
theorem Gj (hc:X.calm=true):Jj X C .sh (.type "tuple") WD:=by
 intro pins s σ H xs us Q I r h
 obtain ⟨x,F,dx,rfl,sb,tx,po⟩:=h
 cases dx with
 | str z=>
  obtain ⟨rfl,hz⟩:=tx.str
  obtain ⟨u,rfl,ru⟩:=yi r
  obtain ⟨t,rfl⟩:=ru
  have hl:(zi z).length=z.cps.size:=by simp [zi]
  refine call_tuple_str (I.ok.hd hc) z t (fun h' tk acc kp it=>?_) hz
  have I1:Inv X pins σ H { s with heap:=h',toks:=tk }:=I.kept (t':=tk) kp
  have I2:Inv X pins σ (upd H h'.objs.size (.tup (zi z))) { s with heap:=h'.push { cls:=.type "tuple",data:=.seq acc },toks:=tk }:=
   I1.laid (t':=tk) (fun b o e=>aa _ e) (ao _) (show ObjOk X.prog X.w _ _ _ (.tup (zi z)) from ⟨⟨by rw [hl]; exact hz,_,ah _ rfl,rfl⟩,acc.toList,YZ it,by simpa using fB h' acc⟩)
  obtain ⟨s2,c2⟩:=wu (u:=.tup (zi z)) sb (I1.hok.fresh (ao _))
  exact ⟨.ref h'.objs.size,_,I2,rfl,po _ _ _ s2 c2 (.tup (.inl (.inl qw)) (Gi z))⟩
 | _=>exact po.elim
end
variable {pos:Pos}
section
theorem vr (i:Nat) (hN:X.N[i]?=some x:=by rfl) (hv:Vis X.env.scope x:=by first | exact ap rfl | exact bC (ap rfl) | exact bC (bC rfl)) (ho:i∉own:=by decide) (hd:(x == ("__debug__":Str))=false:=by decide) (hcd:(x == ("__classdict__":Str))=false:=by decide):PE X (.Name x pos) (tE C own .sh (ql i)):=qew hN hv ho hd hcd
end
section
theorem Rep.swap {F' H':Hp} {g:Nat} {o:D} (rp:Rep K own F H σ ρ) (hg:g∈own) (eb:σ[g]?=some (some (V.ref b))) (c:Chg (fun z=>z=b) F H F' H') (sb:Same F' H') (fb:F' b=none) (ow:OwnIs K F' H' b o) :
  Rep K own F' H' σ (ρ.set g (some o))/\Chg (OA own σ) F H F' H':=by
 obtain ⟨d0,hd0⟩:=rp.opn g hg
 have hl:g < ρ.length:=(au.mp hd0).1
 refine ⟨⟨sb,by simp [rp.len],fun j d hj e=>?_,fun j d hj e=>?_,fun j hj=>?_,rp.dis⟩,c.mono fun z hz=>⟨g,hg,by rw [hz]; exact eb⟩⟩
 ·rw [aj (fun z=>hj (by rw [<-z]; exact hg))] at e
  obtain ⟨v,h1,h2⟩:=rp.val j d hj e
  exact ⟨v,h1,h2.mono c.grow⟩
 ·by_cases q:j=g
  ·subst q
   rw [aC hl] at e
   cases e
   exact ⟨b,eb,fb,ow⟩
  ·rw [aj (aX q)] at e
   obtain ⟨a,h1,h2,h3⟩:=rp.ow j d hj e
   have na:a≠b:=fun z=>by subst z; exact q (rp.dis j g a hj hg h1 eb)
   refine ⟨a,h1,?_,h3.grow c.grow fun o q=>c.keep a o q na⟩
   cases qa:F' a with
   | none=>rfl
   | some u=>
    rcases c.new a (by rw [qa]; simp) with z | z | z
    ·exact absurd h2 z
    ·exact absurd z h3.there
    ·exact absurd z na
 ·by_cases q:j=g
  ·subst q; exact ⟨o,aC hl⟩
  ·rw [aj (aX q)]; exact rp.opn j hj
end
theorem IsL.dropLast {vs:List V} {ds:List D} (h:IsL K F vs ds):IsL K F vs.dropLast ds.dropLast:=by
 rw [List.dropLast_eq_take,List.dropLast_eq_take,h.length]
 exact h.take _
noncomputable def Yc (n:Nat) (fw fx:Sl->Out (D×Sl)):Sl->Out (Fl×Sl):=fun ρ=>(fw ρ).bind fun p=>(fx p.2).bind fun q=>match (q.2[n]?:Option (Option D)),q.1 with
 | some (some (.lst ds)),.int k=>(match ixN ds.length k with | some j=>.ok (.nx,q.2.set n (some (.lst (ds.set j p.1)))) | none=>.bad)
 | _,_=>.bad
theorem qhP {cv:Str->Value} {ca:Str->Addr} {n:Str} (hv:cv n=.ref (ca n)) (hs:bu K (.ref (ca n)) (.ref (ca n))=some true):∀ c Cc,qaq ca [n] c=some Cc->cv c=.ref Cc/\bu K (.ref Cc) (.ref (ca n))=some true:=fun c Cc h=>by
 unfold qaq at h
 split at h
 ·rename_i z
  cases h
  have z:c=n:=by simpa using z
  subst z
  exact ⟨hv,hs⟩
 ·cases h
variable {n:Nat} {m mx:Mo} {ix:Expr} {apos cpos:Pos}
section
variable {mo mw:Mo} {e o w:Expr} {fe fo fw fx:Sl->Out (D×Sl)} {p1 p2 p3:Pos}
theorem Gk (hN:X.N[n]?=some x) (hv:Vis X.env.scope x) (ho:n∈own) (hw:PE X w (tE C own mw fw)) (hx:PE X ix (tE C own mx fx)) (hmw:mw≠.any:=by decide)
  (hd:(x == ("__debug__":Str))=false:=by decide) (hcd:(x == ("__classdict__":Str))=false:=by decide)
  (hsub:∀ v,assign (.Subscript (.Name x p1) ix p2) X.env v=(do
   let ov <-holding [v] (eval (.Name x p1) X.env)
   let iv <-holding [v,ov] (eval ix X.env)
   standAt p2
   holding [v,ov,iv] (setItem ov iv v)
   release [v,ov,iv] []):=by intro _; rfl)
  (ha1:swapsWithSole [.Subscript (.Name x p1) ix p2] w p3.line X.env=pure false:=by rfl) (ha2:swappedStores [.Subscript (.Name x p1) ix p2] w X.env=pure none:=by rfl)
  (ha3:(assignEach [.Subscript (.Name x p1) ix p2] X.env).map (·.2)=[assign (.Subscript (.Name x p1) ix p2) X.env]:=by rfl) :
  PS X (.Assign [.Subscript (.Name x p1) ix p2] w p3) (tSt C own own (Yc n fw fx)):=by
 refine Qp (qbX (yk hw hmw) (qea (yb hN hv hd hcd) hx qaE hsub) ha1 ha2 ha3) fun Dn σ H ⟨F,ρ,rp,h⟩=>⟨F,ρ,rp,PoS.bindE h fun v F1 H1 d ρ1 rp1 c1 mo1 h1=>?_⟩
 have mo1:Is C.K F1 v d:=mo1
 obtain ⟨d0,hd0⟩:=rp1.opn n ho
 obtain ⟨a,e1,hF,o0⟩:=rp1.ow n d0 ho hd0
 refine ⟨_,e1,F1,ρ1,rp1,PoS.bindE h1 fun iv F2 H2 di ρ2 rp2 c2 mo2 h2=>?_⟩
 obtain ⟨d2,hd2⟩:=rp2.opn n ho
 obtain ⟨a',e2,hF2,o2⟩:=rp2.ow n d2 ho hd2
 rw [e1] at e2
 cases e2
 simp only [hd2] at h2
 cases d2 with
 | lst ds=>
  cases di with
  | int k=>
   have hiv:=mo2.top.int
   subst hiv
   obtain ⟨xs,ex,il⟩:=o2
   cases q:ixN ds.length k with
   | none=>simp only [q] at h2; exact h2.elim
   | some j=>
    simp only [q] at h2
    obtain ⟨r3,c3⟩:=rp2.write (u:=.lst (xs.set j v)) (d:=.lst (ds.set j d)) ho e1 ⟨_,qw,il.set (mo1.mono c2.grow) j⟩
    exact ⟨a,xs,k,j,rfl,rfl,ex,by rw [il.length]; exact q,h2 σ F2 _ ⟨r3,c3,fun _ z=>.inl z,fun _ _=>rfl⟩⟩
  | _=>exact h2.elim
 | _=>exact h2.elim
end
section
variable {mb:Mo} {b:Expr} {fb:Sl->Out (D×Sl)} {px:Pos}
noncomputable def d2O (i:Nat) (g:D->D->Out D) (fb:Sl->Out (D×Sl)):Sl->Out (D×Sl):=fun ρ=>(fb ρ).bind fun q=>match (q.2[i]?:Option (Option D)) with
 | some (some d)=>(g d q.1).plain.bind fun r=>.ok (r,q.2)
 | _=>.bad
theorem qdk {g:D->D->Out D} {Q:VK} (ho:i∈own) (h:tE C own m (d2O i g fb) σ H Q) :
  qf8 i σ H fun x H1=>tE C own mb fb σ H1 fun y H2=>∃ F dx dy,Same F H2/\TopIs C.K F H2 x dx/\TopIs C.K F H2 y dy/\PoV C m F H2 (g dx dy) Q:=by
 obtain ⟨F,ρ,rp,h⟩:=h
 obtain ⟨d0,hd0⟩:=rp.opn i ho
 obtain ⟨a,e1,hF,o0⟩:=rp.ow i d0 ho hd0
 refine ⟨_,e1,F,ρ,rp,Po.bind h fun v F1 H1 d ρ1 rp1 c1 mo1 h1=>?_⟩
 obtain ⟨d1,hd1⟩:=rp1.opn i ho
 obtain ⟨a',e2,hF1,o1⟩:=rp1.ow i d1 ho hd1
 rw [e1] at e2
 cases e2
 simp only [hd1] at h1
 exact ⟨F1,d1,d,rp1.sub,.inr ⟨a,rfl,o1⟩,mo1.top,PoV.of rp1 h1⟩
theorem qe9 (hK:C.K=X.K) (hu:X.A.units+64 < cLine) (hN:X.N[i]?=some x) (hv:Vis X.env.scope x) (ho:i∈own) (hb:PE X b (tE C own mb fb)) (hs:Wf b)
  (hd:(x == ("__debug__":Str))=false:=by decide) (hcd:(x == ("__classdict__":Str))=false:=by decide):PE X (.Subscript (.Name x px) b pos) (tE C own .sh (d2O i ixD fb)):=by
 refine jJ (qem (qb3 (by omega)) (yb hN hv hd hcd) hb hs) fun σ H Q h=>?_
 obtain ⟨v,e1,F,ρ,rp,h⟩:=qdk (mb:=mb) ho h
 refine ⟨v,e1,F,ρ,rp,?_⟩
 cases q2:fb ρ with
 | ok p=>
  rw [q2] at h
  obtain ⟨d',ρ3⟩:=p
  intro w F3 H3 rp3 c3 mo3
  obtain ⟨F4,dx,dy,sb,tx,ty,po⟩:=h w F3 H3 rp3 c3 mo3
  exact qb4 (σ:=σ) hK sb tx ty po
 | exc c=>rw [q2] at h; exact h
 | bad=>rw [q2] at h; exact h.elim
end
def FlyA (h:Heap) (ex T:Addr) (cls:Value):Prop:=∃ oe vs oT ts fl,h.get? ex=some oe/\oe.cls=cls/\oe.data=.fields vs/\vs[1]?=some (.ref T)/\T≠ex/\h.get? T=some oT/\oT.data=.fields ts/\ts[3]?=some fl
theorem FlyA.tr {h base:Heap} {ex T:Addr} {cls:Value} (f:FlyA h ex T cls) (hb:base.get? T=none):∃ a0 fl,h.TracedAtW base ex cls a0 fl:=by
 obtain ⟨oe,vs,oT,ts,fl,a1,a2,a3,a4,a5,a6,a7,a8⟩:=f
 have hz:0 < vs.size:=Nat.lt_of_succ_lt (Array.getElem?_eq_some_iff.mp a4).1
 exact ⟨vs[0],fl,oe,vs,T,oT,ts,a1,⟨a2,by simp [hz]⟩,a3,a4,hb,a5,a6,a7,a8⟩
noncomputable def JA (n:Nat) (fw fx:Sl->Out (D×Sl)):Sl->Out (Fl×Sl):=fun ρ=>(fw ρ).bind fun p=>(fx p.2).bind fun q=>match (q.2[n]?:Option (Option D)) with
 | some (some (.dct kvs))=>(match Kq q.1 with
  | some k=>if kvs.length < sizeLine then .ok (.nx,q.2.set n (some (.dct (Wu kvs k p.1)))) else .bad
  | none=>.bad)
 | _=>.bad
section
variable {w:Expr} {fw fx:Sl->Out (D×Sl)} {mw:Mo} {p1 p2 p3:Pos}
theorem JB (hu:X.A.units+64 < cLine) (hN:X.N[n]?=some x) (hv:Vis X.env.scope x) (ho:n∈own) (hw:PE X w (tE C own mw fw)) (hx:PE X ix (tE C own mx fx)) (hmw:mw≠.any:=by decide)
  (hd:(x == ("__debug__":Str))=false:=by decide) (hcd:(x == ("__classdict__":Str))=false:=by decide) (hs:swapsWith w (some (.Subscript (.Name x p1) ix p2)) p3.line X.env=pure false:=by rfl) :
  PS X (.Assign [.Subscript (.Name x p1) ix p2] w p3) (tSt C own own (JA n fw fx)):=by
 refine Qp (qcM (by omega) (yb hN hv hd hcd) hx (yk hw hmw) hs) fun Dn σ H ⟨F,ρ,rp,h⟩=>⟨F,ρ,rp,PoS.bindE h fun v F1 H1 d ρ1 rp1 c1 mo1 h1=>?_⟩
 have mo1:Is C.K F1 v d:=mo1
 obtain ⟨d0,hd0⟩:=rp1.opn n ho
 obtain ⟨a,e1,hF,o0⟩:=rp1.ow n d0 ho hd0
 refine ⟨_,e1,F1,ρ1,rp1,PoS.bindE h1 fun iv F2 H2 di ρ2 rp2 c2 mo2 h2=>?_⟩
 obtain ⟨d2,hd2⟩:=rp2.opn n ho
 obtain ⟨a',e2,hF2,o2⟩:=rp2.ow n d2 ho hd2
 rw [e1] at e2
 cases e2
 simp only [hd2] at h2
 cases d2 with
 | dct kvs=>
  cases q:Kq di with
  | none=>simp only [q] at h2; exact h2.elim
  | some k=>
   simp only [q] at h2
   have hiv:=qfW mo2.top q
   subst hiv
   obtain ⟨kv,ex,ik⟩:=o2
   by_cases hz:kvs.length < sizeLine
   ·simp only [if_pos hz] at h2
    obtain ⟨r3,c3⟩:=rp2.write (u:=.dK (Qo kv k v)) (d:=.dct (Wu kvs k d)) ho e1 ⟨_,qw,ik.put (mo1.mono c2.grow)⟩
    exact ⟨a,_,rfl,DPut.k ex (by rw [ik.length]; exact hz),h2 σ F2 _ ⟨r3,c3,fun _ z=>.inl z,fun _ _=>rfl⟩⟩
   ·simp only [if_neg hz] at h2; exact h2.elim
 | _=>exact h2.elim
end
noncomputable def Gm (i:Nat):Sl->Out (D×Sl):=fun ρ=>match (ρ[i]?:Option (Option D)) with
 | some (some (.lst (d::es)))=>.ok (d,ρ.set i (some (.lst es)))
 | _=>.bad
section
variable {px:Pos}
theorem qdl:MtR X "list.pop" (fun x vs H Q=>∃ l v xs,x=.ref l/\vs=[.int 0]/\H l=some (.lst (v::xs))/\Q v (upd H l (.lst xs))):=by
 intro pins s σ H x vs v us Q I rx rv h
 obtain ⟨l,y,xs,rfl,rfl,hH,q⟩:=h
 exact qaG pins s σ H _ _ v us Q I rx rv ⟨l,_,0,0,y,rfl,rfl,hH,by decide,by decide,by simp [seqIndex?],rfl,q⟩
theorem qdm {j:Nat} {pz:Pos} (hN:X.N[i]?=some x) (hv:Vis X.env.scope x) (ho:i∈own) (hd:(x == ("__debug__":Str))=false:=by decide) (hcd:(x == ("__classdict__":Str))=false:=by decide)
  (hbase:attributeBase (.Name x px) "pop" X.env (eval (.Name x px) X.env)=eval (.Name x px) X.env:=by rfl) (hline:(apos.endLine == cpos.line)=true:=by rfl)
  (hfew:((backTo cpos (starEach [.Constant (.int 0) j pz] X.env)).all (fun x=>!x.1)&&(backToKw cpos (keywordEach [] X.env)).all (fun x=>x.1.isSome)
   && decide ([fm (.int 0) j pz].length+([]:List Keyword).length+(if ([]:List Keyword).isEmpty then 0 else 1) < 30))=true:=by exact wo rfl)
  (hs:starEach [.Constant (.int 0) j pz] X.env=[(false,eval (.Constant (.int 0) j pz) X.env)]:=by exact qY rfl) :
  PE X (.Call (.Attribute (.Name x px) "pop" apos) [.Constant (.int 0) j pz] [] cpos) (tE C own .sh (Gm i)):=by
 refine jJ (YI bY PySem.F.slot_list_pop PySem.F.type_list_pop qdl (yb hN hv hd hcd) (qT qbV jM hs) hbase hfew hline hs rfl) fun σ H Q ⟨F,ρ,rp,h⟩=>?_
 obtain ⟨d0,hd0⟩:=rp.opn i ho
 obtain ⟨a,e1,hF,o0⟩:=rp.ow i d0 ho hd0
 unfold Gm at h
 simp only [hd0] at h
 cases d0 with
 | lst es=>
  cases es with
  | nil=>exact h.elim
  | cons d es=>
   obtain ⟨xs,ex,il⟩:=o0
   cases il with
   | cons iv il=>
    refine ⟨_,e1,.inl ⟨rfl,_,.inl (.inl ex)⟩,?_⟩
    obtain ⟨r2,c3⟩:=rp.write (u:=.lst _) (d:=.lst es) ho e1 ⟨_,qw,il⟩
    exact ⟨a,_,_,rfl,rfl,ex,h _ F _ r2 c3 iv⟩
 | _=>exact h.elim
end
noncomputable def qf4 (kvs:List (Key×D)) (k:Key) (d:D):D:=match kvs.find? fun kv=>decide (kv.1=k) with
 | some kv=>kv.2
 | none=>d
noncomputable def qbk (fo fe ff:Sl->Out (D×Sl)):Sl->Out (D×Sl):=fun ρ=>(fo ρ).bind fun p=>if (match p.1 with | .dct _=>true | _=>false)=true then (fe p.2).bind fun q=>(ff q.2).bind fun r=>(match p.1 with
 | .dct kvs=>(match Kq q.1 with
  | some k=>.ok (qf4 kvs k r.1,r.2)
  | none=>.bad)
 | _=>.bad) else .bad
theorem IsK.miss {k:Key}:∀ {vs:List (Key×V)} {ds:List (Key×D)},IsK K F vs ds->(ds.find? fun kv=>decide (kv.1=k))=none->VU vs k=none
 | _,_,.nil,e=>rfl
 | _,_,.cons (k:=k') (vs:=vs) h t,e=>by
  by_cases q:k'=k
  ·rw [cg (by simp [q])] at e
   cases e
  ·rw [bL (by simp [q])] at e
   rw [yz q]
   exact IsK.miss t e
section
variable {o e f:Expr} {fo fe ff:Sl->Out (D×Sl)} {me mf:Mo}
theorem qdn (hu:X.A.units+64 < cLine) (ho:PE X o (tE C own .sh fo)) (he:PE X e (tE C own me fe)) (hf:PE X f (tE C own mf ff)) (hmf:mf≠.any:=by decide) (hme:me≠.any:=by decide)
  (hbase:attributeBase o "get" X.env (eval o X.env)=eval o X.env:=by rfl)
  (hfew:((backTo cpos (starEach [e,f] X.env)).all (fun x=>!x.1)&&(backToKw cpos (keywordEach [] X.env)).all (fun x=>x.1.isSome)
   && decide (([e,f]:List Expr).length+([]:List Keyword).length+(if ([]:List Keyword).isEmpty then 0 else 1) < 30))=true:=by exact wo rfl)
  (hline:(apos.endLine == cpos.line)=true:=by rfl) (htr:backTo cpos (starEach [e,f] X.env)=[(false,eval e X.env),(false,eval f X.env)]:=by rfl) :
  PE X (.Call (.Attribute o "get" apos) [e,f] [] cpos) (tE C own .sh (qbk fo fe ff)):=by
 refine jJ (qaK (by omega) ho he (yk hf hmf) ⟨hbase,hfew,hline,htr⟩) fun σ H Q ⟨F,ρ,rp,h⟩=>?_
 refine ⟨F,ρ,rp,Po.bind h fun v F1 H1 d ρ1 rp1 c1 mo1 h1=>?_⟩
 have mo1:Is C.K F1 v d:=mo1
 cases d with
 | dct kvs=>
  simp only [if_true] at h1
  cases mo1 with
  | dct ha ik=>
   rename_i a kv
   refine ⟨a,rfl,.inl ⟨kv,.inl (rp1.sub _ _ ha)⟩,F1,ρ1,rp1,Po.bind h1 fun y F2 H2 dy ρ2 rp2 c2 mo2 h2=>?_⟩
   refine ⟨F2,ρ2,rp2,Po.bind h2 fun z F3 H3 dz ρ3 rp3 c3 mo3 h3=>?_⟩
   have mo3:Is C.K F3 z dz:=mo3
   cases q:Kq dy with
   | none=>simp only [q] at h3; exact h3.elim
   | some k=>
    simp only [q] at h3
    have hy:=qfW mo2.top q
    subst hy
    have g23:F3 a=some (.dK kv):=c3.grow _ _ (c2.grow _ _ ha)
    have ik3:IsK C.K F3 kv kvs:=(ik.mono c2.grow).mono c3.grow
    refine ⟨VU kv k,.inl ⟨kv,k,.inl (rp3.sub _ _ g23),rfl,rfl⟩,?_⟩
    unfold qf4 at h3
    cases q2:kvs.find? fun kv=>decide (kv.1=k) with
    | none=>
     simp only [q2] at h3
     rw [ik3.miss q2]
     exact h3 z F3 H3 rp3 .refl mo3
    | some kd=>
     simp only [q2] at h3
     obtain ⟨w,e1,e2⟩:=ik3.find q2
     rw [e1]
     exact h3 w F3 H3 rp3 .refl e2
 | _=>exact h1.elim
end
end L2.D2
namespace L2.D2
open PySem PySem.Spec PyProof.Rows PySem.W
section
variable {prog:Program} {w:World} {A:Around} {E:Value->Shared->Prop} {s:Shared} {T:String} {r d:Addr} {n:Nat} {P:Nat->Value->Prop} {OK:Heap->Prop}
theorem Gn {Q:List Value->Shared->Prop} (K:KdlSrc prog w T r d n P OK) (hh:A.handled=none) (hok:OK s.heap) (hn:n<=sizeLine)
  (hQ:∀ h' tk acc,(∀ b o,s.heap.get? b=some o->h'.get? b=some o)->ItemsOf P acc n->Q acc.toList { s with heap:=h',toks:=tk }):wpAny (model prog w) A (collect (.ref r)) Q E s:=by
 unfold collect
 refine wpAny_bind (wpAny_runValue (codeAny_builtin F.entry_proto_collect ?_))
 rw [bn F.plain_proto_collect _]
 show wpAny _ A.in1 (newList [] >>= fun l=>again (.builtin "list.__iadd__" ⟨[l,.ref r],[]⟩)) _ _ s
 refine wpAny_bind (wpAny_newObj_type ?_)
 refine wpAny_pure ⟨plainId_quiet F.plain_list_iadd _,codeAny_builtin F.entry_list_iadd ?_⟩
 rw [bn F.plain_list_iadd _]
 have hlt:=K.there _ hok
 have hS:(s.heap.push { cls:=.type "list",data:=.seq ([]:List Value).toArray }).get? s.heap.objs.size=some { cls:=.type "list",data:=.seq ([]:List Value).toArray }:=ah _ rfl
 show wpAny _ A.in1 (ba (.ref s.heap.objs.size) (.ref r) (.ref s.heap.objs.size)) _ _ _
 refine kdl_extend (R:=fun r s'=>match r with
  | .ok (.ret v)=>wpAny (model prog w) A (match v with
   | .ref a=>do
    let o <-load a
    match o.data with
     | .seq xs _=>pure xs.toList
     | _=>unsupported "internal:collect"
   | _=>unsupported "internal:collect") Q E s'
  | .ok _=>False
  | .error e=>E e s') (s:={ s with heap:=s.heap.push { cls:=.type "list",data:=.seq ([]:List Value).toArray } }) K hh (K.keep _ _ hok fun b _ o e=>aa _ e) _ (cz hlt.1) (cz hlt.2) _ 0 hS (fun h' tk acc' c' hk hS' hacc=>?_) hn
 show wpAny _ A (load s.heap.objs.size >>= _) _ _ _
 refine wpAny_bind (wpAny_load hS' ?_)
 exact wpAny_pure (hQ h' tk acc' (fun b o e=>hk b o (aA (am e)) (aa _ e)) hacc)
theorem Go:∀ (ss:List Str) (us:List Value),us.length=ss.length->(∀ (j:Nat) (v:Value),us[j]?=some v->∃ x t,ss[j]?=some x/\v=dS x t)->StrsAre us ss
 | [],[],_,_=>.nil
 | [],_::_,h,_=>by cases h
 | _::_,[],h,_=>by cases h
 | x::ss,u::us,h,k=>by
  obtain ⟨x',t,e1,e2⟩:=k 0 u rfl
  cases e1
  rw [e2]
  refine .cons _ t (Go ss us (by simpa using h) fun j v e=>?_)
  simpa using k (j+1) v (by simpa using e)
theorem qbl {ss:List Str} {Q:Value->Shared->Prop} (K:KdlSrc prog w T r d n P OK) (hh:A.handled=none) (hok:OK s.heap) (hss:∀ acc:Array Value,ItemsOf P acc n->StrsAre acc.toList ss) (h64:ss.length < 64) (hn:n<=sizeLine)
  (hQ:∀ (h1 h':Heap) tk vs e ss',(∀ b o,s.heap.get? b=some o->h1.get? b=some o)->(∀ b o,h1.get? b=some o->h'.get? b=some o)->h'.get? h1.objs.size=some (seqObj "list" vs e)->StrsAre vs.toList ss'->ss'.Perm ss->sortedS ss'=true->Q (.ref h1.objs.size) { s with heap:=h',toks:=tk }) :
  wpAny (model prog w) A (call (.builtin "sorted") [.ref r]) Q E s:=by
 refine Calls.call_function_entry kind_sorted plain_sorted entry_sorted (args_sorted1 _) ?_; unfold Builtin.«sorted»
 refine wpAny_bind (m:=checkCount "sorted" 1 1 _) (wpAny_pure ?_)
 refine wpAny_bind (Gn (A:=A.in1) K (show A.in1.handled=none from hh) hok hn fun h1 tk acc k1 hi=>?_)
 have hst:=hss acc hi
 have hl:acc.toList.length < 64:=by rw [hst.length]; exact h64
 refine wpAny_bind (wpAny_newList ?_ (by rw [sizeLine_eq]; omega))
 have hoL:(h1.push (seqObj "list" acc.toList.toArray 0)).get? h1.objs.size=some (seqObj "list" acc.toList.toArray 0):=ah _ rfl
 refine wpAny_bind (wpAny_holding (wpAny_call_entry slot_list_sort (s:={ s with heap:=h1.push (seqObj "list" acc.toList.toArray 0),toks:=tk }) ⟨_,hoL,rfl⟩ entry_list_sort (list_sort_treeK strKind_oneLt hoL hst.keysOf (fun v₁ v₂ rest e=>keyKind_strs (by rw [<-e]; exact hst)) hl fun st' a1 a2=>⟨_,rfl,?_⟩) (args_list_sort _)))
 obtain ⟨ss',b1,b2,b3⟩:=sorted_out_str hst a1 a2
 obtain ⟨e,he⟩:=sortedHeap_at (out:=(arrOf st').map (·.2)) hoL
 refine wpAny_pure ⟨_,rfl,hQ h1 _ tk _ e ss' k1 (fun b o eb=>?_) he b1 b2 b3⟩
 have hb:=am eb
 rw [sortedHeap_old (aA hb) (by rw [cj]; exact d9 hb)]
 exact aa _ eb
end
variable {α:Type}
noncomputable def WE:List (Key×α)->Option (List Str)
 | []=>some []
 | (.inr x,_)::l=>(WE l).map (x::·)
 | (.inl _,_)::_=>none
theorem Yd:∀ {l:List (Key×α)} {ss:List Str},WE l=some ss->l.map (·.1)=ss.map bp
 | [],ss,h=>by cases h; rfl
 | (.inr x,_)::l,ss,h=>by
  obtain ⟨ss',e,rfl⟩:=aR.mp (show (WE l).map (x::·)=some ss from h)
  rw [aF,aF,Yd e]
 | (.inl _,_)::_,ss,h=>by cases h
theorem IsK.keys {K:Frag} {F:Hp}:∀ {kv:List (Key×V)} {ks:List (Key×D)},IsK K F kv ks->kv.map (·.1)=ks.map (·.1)
 | _,_,.nil=>rfl
 | _,_,.cons h t=>by rw [aF,aF,IsK.keys t]
theorem KV.keys:∀ {kv:List (Key×V)} {vs:List (Key×Value)},KV kv vs->kv.map (·.1)=vs.map (·.1)
 | _,_,.nil=>rfl
 | _,_,.cons h t=>by rw [aF,aF,h.1,KV.keys t]
noncomputable def wB:D->Out D
 | .dct kvs=>(match WE kvs with
  | some ss=>if ss.length < 64/\(ss.all fun y=>decide (y.length<=sizeLine))=true then .ok (.lst ((kD ss).map D.str)) else .bad
  | none=>.bad)
 | _=>.bad
section
variable {X:Cx} {C:Ct} {own:List Nat} {e:Expr} {fa:Sl->Out (D×Sl)} {ma:Mo} {pos:Pos}
theorem Xa (hc:X.calm=true):Jj X C .fr (.builtin "sorted") wB:=by
 intro pins s σ H xs us Q I r h
 obtain ⟨x,F,dx,rfl,sb,tx,po⟩:=h
 obtain ⟨u,rfl,ru⟩:=yi r
 cases dx with
 | dct kvs=>
  obtain ⟨a,kv,rfl,hH,ik⟩:=tx.dct sb
  cases ru
  cases q:WE kvs with
  | none=>simp only [wB,q] at po; exact po.elim
  | some ss=>
   simp only [wB,q] at po
   by_cases hl:ss.length < 64/\(ss.all fun y=>decide (y.length<=sizeLine))=true
   ·rw [if_pos hl] at po
    obtain ⟨hz,hsys,vs,rel,dd⟩:=(show ObjOk X.prog X.w H s.heap a (.dK kv) from I.hok a _ hH)
    obtain ⟨ep,da⟩:=dd.dictAt
    have hk:vs.map (·.1)=ss.map bp:=by rw [<-KV.keys rel,ik.keys,Yd q]
    have hlen:vs.length=ss.length:=by have:=congrArg fC hk; simpa using this
    refine qbl (kdl_dict (kvs:=vs) (ep:=ep) hsys) (I.ok.hd hc) da (fun acc hi=>Go _ _ (by rw [bz,hi.1,hlen]) fun j v e=>?_) hl.1 (by rw [hlen,sizeLine_eq]; omega) fun h1 h' tk us e ss' k1 k2 hp st pm so=>?_
    ·obtain ⟨k,x,e1,e2⟩:=hi.2 j v (by rw [<-aU]; exact e)
     have e3:(vs.map (·.1))[j]?=some k:=by rw [aH,e1]; rfl
     rw [hk,aH] at e3
     obtain ⟨y,e4,rfl⟩:=aR.mp e3
     rcases jo (show zW (bp y) v=true from e2) with ⟨i,t,e5,_⟩ | ⟨z,t,e5,rfl⟩
     ·cases e5
     ·cases e5
      exact ⟨_,t,e4,rfl⟩
    ·rw [Vn pm so] at st
     have I1:Inv X pins σ H { s with heap:=h1,toks:=tk }:=I.kept (t':=tk) k1
     have hz:(kD ss).length<=sizeLine:=by
      rw [(je _).length_eq,sizeLine_eq]
      omega
     have hq:H h1.objs.size=none:=I1.hok.fresh (ao _)
     obtain ⟨s2,c2,f2⟩:=vf (u:=.lst ((kD ss).map V.str)) sb hq
     exact ⟨.ref h1.objs.size,_,I1.laid (t':=tk) (o:=.lst ((kD ss).map V.str)) k2 (ao _) ⟨by rw [aB]; exact hz,us.toList,e,gz st,by simpa [seqObj] using hp⟩,rfl,po _ _ _ s2 c2 ⟨_,rfl,hq,f2,_,qw,Ju fun y hy2=>by
      have:=(je _).mem_iff.mp hy2
      exact of_decide_eq_true (bh.mp hl.2 y this)⟩⟩
   ·rw [if_neg hl] at po; exact po.elim
 | _=>exact po.elim
end
end L2.D2
namespace PySem.F
theorem nolen_lri:typeLookup (.type "list_reverseiterator") "__len__"=pure none:=by rw [typeLookup_type,builtinLookup_eq_fast]; kernel_rfl
theorem hint_lri:typeLookup (.type "list_reverseiterator") "__length_hint__"=pure (some (.builtin "list_reverseiterator.__length_hint__")):=by rw [typeLookup_type,builtinLookup_eq_fast]; kernel_rfl
end PySem.F
namespace L2.D2
open PySem PySem.Spec PyProof.Rows PySem.W
section
variable {prog:Program} {w:World} {A:Around} {E:Value->Shared->Prop} {s:Shared} {I l:Addr} {items:Array Value}
theorem Xb {R:Result->Shared->Prop} (hh:A.handled=none) (hne:l≠I) (hit:s.heap.IsRevIter I l ((items.size:Int) - 1)) (hl:s.heap.IsList l items) (S:Addr) (hSI:S≠I) (hSl:S≠l) (res:Value) (c₀:Nat) (hS:s.heap.get? S=some { cls:=.type "list",data:=.seq #[] c₀ })
  (hR:∀ h' tk acc' c',(∀ b o,b≠S->b≠I->s.heap.get? b=some o->h'.get? b=some o)->h'.get? S=some { cls:=.type "list",dict:=none,data:=.seq acc' c',slots:=#[] }->ItemsOf (fun i v=>items[items.size - 1 - i]?=some v) acc' items.size->R (.ok (.ret res)) { s with heap:=h',toks:=tk }) (hn:items.size<=sizeLine) :
  wpAny (model prog w) A.in1 (ba (.ref S) (.ref I) res)
   (fun fin s'=>match fin with | .done f=>R (.ok f) s' | .again c'=>c'.quiet=true/\codeAny (model prog w) A c' R s') (fun e s'=>R (.error e) s') s:=by
 have W:=Walks.listRev (prog:=prog) (w:=w) (A:=A.in1) hh I l hne items
 have hSf:S∉[I,l]:=by simp only [ac,aO,or_false,not_or]; exact ⟨hSI,hSl⟩
 have st:0<=items.size/\s.heap.IsRevIter I l ((items.size:Int) - 1 - ((0:Nat):Int))/\s.heap.IsList l items:=⟨bB _,by simpa using hit,hl⟩
 unfold ba
 refine wpAny_bind (wpAny_typeOf hit.typeIs ?_)
 have h1:cI (.ref S) (.ref I)=false:=by simp [cI,hSI]
 rw [if_neg (by rw [h1]; decide)]
 refine wpAny_bind (W.self 0 _ _ _ st ?_)
 refine wpAny_bind (wpAny_holding ?_)
 unfold Builtin.List.listLengthHint
 refine wpAny_bind (wpAny_specialOf hit.typeIs F.nolen_lri ?_)
 show wpAny _ A.in1 (specialOf (bN I) (aJ "__length_hint__") >>= _) _ _ _
 refine wpAny_bind (wpAny_specialOf hit.typeIs F.hint_lri ?_)
 generalize hid:("list_reverseiterator.__length_hint__":String)=id0
 wp_delta
 rw [show splitId id0=some ("list_reverseiterator", "__length_hint__") from by subst hid; decide +kernel]
 subst hid
 refine wpAny_bind (wpAny_isInstance (b:=true) hit.typeIs (by rw [isSubtype_type]; kernel_rfl) ?_)
 refine wpAny_pure ?_
 rw [if_neg (by decide)]
 refine wpAny_pure ⟨plainId_quiet F.plain_extend_loop _,codeAny_extend_loopS W.toS hn S hSf res items.size 0 _ #[] c₀ rfl (bB _) st hS (ItemsOf.nil _) fun s' acc' c' hm hS' hacc=>?_⟩
 rw [Moved.eq_with hm]
 refine hR s'.heap s'.toks acc' c' (fun b o hb hb2 e=>hm.heap b o (fun hmem=>?_) e) hS' hacc
 rcases ac.mp hmem with e' | hmem
 ·exact hb e'
 ·exact hb2 (ax.mp hmem)
theorem qbm {Q:Value->Shared->Prop} (hh:A.handled=none) (hne:l≠I) (hit:s.heap.IsRevIter I l ((items.size:Int) - 1)) (hl:s.heap.IsList l items) (hn:items.size<=sizeLine)
  (hQ:∀ h' tk acc' c',(∀ b o,b≠I->s.heap.get? b=some o->h'.get? b=some o)->h'.get? s.heap.objs.size=some { cls:=.type "list",dict:=none,data:=.seq acc' c',slots:=#[] }->ItemsOf (fun i v=>items[items.size - 1 - i]?=some v) acc' items.size->Q (.ref s.heap.objs.size) { s with heap:=h',toks:=tk }) :
  wpAny (model prog w) A (call (.type "list") [.ref I]) Q E s:=by
 refine callType_codes (Q₁:=fun obj s₁=>obj=.ref s.heap.objs.size/\s₁={ s with heap:=s.heap.push { cls:=.type "list",data:=.seq #[] } }) PySem.F.called_list (PySem.F.typeCall_list_1 _) PySem.F.entry_list_init
  (code_list_new _ ⟨rfl,rfl⟩) fun obj s₁ h₁=>?_
 obtain ⟨rfl,rfl⟩:=h₁
 have hS:(s.heap.push { cls:=.type "list",data:=.seq #[] }).get? s.heap.objs.size=some { cls:=.type "list",data:=.seq #[] }:=ah _ rfl
 obtain ⟨oI,hoI,_⟩:=id hit
 obtain ⟨ol,hol,_⟩:=id hl
 have hSI:s.heap.objs.size≠I:=cz (am hoI)
 have hSl:s.heap.objs.size≠l:=cz (am hol)
 refine ⟨⟨_,hS,rfl⟩,PySem.F.args_list_init_2 _ _,?_⟩
 show wpAny _ _ (do let old <-Builtin.List.listItems (.ref s.heap.objs.size); Builtin.List.listUpdate (.ref s.heap.objs.size) (fun _=>#[]); letGo old.toList.reverse; ba (.ref s.heap.objs.size) (.ref I) .none) _ _ _
 refine wpAny_bind ?_
 unfold Builtin.List.listItems
 refine wpAny_bind (wpAny_seqItems hS rfl (wpAny_pure ?_))
 show wpAny _ _ (updateSeq s.heap.objs.size (fun _=>#[]) >>= fun _=>letGo (#[]:Array Value).toList.reverse >>= fun _=>ba (.ref s.heap.objs.size) (.ref I) .none) _ _ _
 refine wpAny_bind (wpAny_updateSeq hS rfl ?_)
 have hS₂:=bb (cE (fun _=>(#[]:Array Value))) hS rfl
 have oth:∀ b o,b≠s.heap.objs.size->s.heap.get? b=some o->((s.heap.push { cls:=.type "list",data:=.seq #[] }).update s.heap.objs.size (cE (fun _=>(#[]:Array Value)))).get? b=some o:=
  fun b o hb e=>(cf _ _ (aX hb)).trans (aa _ e)
 refine wpAny_bind (wpAny_letGo ?_)
 refine Xb (A:=A.in1) hh hne (hit.at fun o e=>oth I o hSI.symm e) (hl.at fun o e=>oth l o hSl.symm e) _ hSI hSl .none _ hS₂ (fun h' tk acc' c' hk hS' hacc=>?_) hn
 exact ⟨rfl,hQ h' tk acc' c' (fun b o hb e=>hk b o (aA (am e)) hb (oth b o (aA (am e)) e)) hS' hacc⟩
end
noncomputable def yS:D->Out D
 | .lst xs=>.ok (.lst xs.reverse)
 | _=>.bad
theorem qbn {vs:List V} {its:List Value} {acc:Array Value} (r:Vals vs its) (h:ItemsOf (fun i v=>its.toArray[its.toArray.size - 1 - i]?=some v) acc its.toArray.size):Vals vs.reverse acc.toList:=by
 have e:acc.toList=its.reverse:=by
  apply eh
  intro j
  have hs:acc.size=its.length:=by simpa using h.1
  by_cases hj:j < its.length
  ·have hv:acc.toList[j]?=some (acc.toList[j]'(by rw [bz]; omega)):=aG _
   have h2:=h.2 j _ (by rw [<-aU]; exact hv)
   rw [hv,List.getElem?_reverse hj,<-h2]
   simp
  ·rw [bR (by rw [bz]; omega),bR (by rw [List.length_reverse]; omega)]
 rw [e]
 exact r.reverse
theorem Gp {K:Frag} {F:Hp}:∀ {vs:List V} {ds:List D},IsL K F vs ds->IsL K F vs.reverse ds.reverse
 | _,_,.nil=>.nil
 | _,_,.cons h t=>by
  rw [dE,dE]
  exact (Gp t).append (.cons h .nil)
section
variable {X:Cx} {C:Ct} {own:List Nat} {e:Expr} {fa:Sl->Out (D×Sl)} {ma:Mo} {pos:Pos}
theorem Xc {p p2 pos2:Pos} (hK:C.K=X.K) (hc:X.calm=true) (hg:Gl X "list") (hm:X.mg "list"=none) (hv:bootBuiltins "list"=some (.type "list")) (hg2:Gl X "reversed") (hm2:X.mg "reversed"=none) (hv2:bootBuiltins "reversed"=some (.type "reversed")) (ha:PE X e (tE C own ma fa))
  (he:starEach [e] X.env=[(false,eval e X.env)]:=by exact qY rfl) (he2:starEach [.Call (.Name "reversed" p2) [e] [] pos2] X.env=[(false,eval (.Call (.Name "reversed" p2) [e] [] pos2) X.env)]:=by exact qY rfl) :
  PE X (.Call (.Name "list" p) [.Call (.Name "reversed" p2) [e] [] pos2] [] pos) (tE C own .fr (d1 yS fa)):=by
 refine ⟨?_⟩
 intro pins s σ H Q I h
 refine wpAny_Call_Name_kw (zX I hg hm hv ?_ (by decide) (by decide))
 refine bF ?_ (by rw [he2]; rfl) rfl
 rw [he2]
 show wpAny _ _ (spliced ((false,eval (.Call (.Name "reversed" p2) [e] [] pos2) X.env)::[])) _ _ s
 refine dq ?_
 refine wpAny_Call_Name_kw (zX I hg2 hm2 hv2 ?_ (by decide) (by decide))
 refine bF (thn ((qT ha jM he) pos2 pins s σ H _ I (xq (ma:=ma) h)) fun us s1 ⟨vs,H1,I1,r1,q1⟩=>?_) (by rw [he]; rfl) rfl
 obtain ⟨x,F,dx,rfl,sb,tx,po⟩:=q1
 obtain ⟨u,rfl,ru⟩:=yi r1
 cases dx with
 | lst ds=>
  obtain ⟨a,vs,rfl,hq,t⟩:=tx.lst sb
  rw [hK] at hq
  cases ru
  obtain ⟨its,rv,pl0,hz⟩:=I1.list hq
  have pl:s1.heap.IsList a its.toArray:=by
   obtain ⟨o,n,ho,hc1,_,hdt⟩:=pl0
   exact ⟨o,ho,hc1,n,hdt⟩
  refine call_reversed_list pl ?_
  refine dZ ?_
  have hs1:=ah (h:=s1.heap) (o:=revObj a ((its.toArray.size:Int) - 1)) 
  have pl2:(s1.heap.push (revObj a ((its.toArray.size:Int) - 1))).IsList a its.toArray:=pl.at fun o eo=>aa _ eo
  obtain ⟨oa,hoa,_⟩:=id pl
  have hne:a≠s1.heap.objs.size:=aA (am hoa)
  refine qbm (s:={ s1 with heap:=s1.heap.push (revObj a ((its.toArray.size:Int) - 1)) }) (I.ok.hd hc) hne ⟨_,ah _ rfl,rfl,rfl⟩ pl2 (by rw [ak,<-rv.length]; exact hz) fun h' tk acc c kp hp hi=>?_
  have kp2:∀ b o,s1.heap.get? b=some o->h'.get? b=some o:=fun b o eo=>kp b o (aA (am eo)) (aa _ eo)
  have hsz:(s1.heap.push (revObj a ((its.toArray.size:Int) - 1))).objs.size=s1.heap.objs.size+1:=cj ..
  have hq2:H1 (s1.heap.objs.size+1)=none:=I1.hok.fresh (d6 _)
  obtain ⟨s2,c2,f2⟩:=vf (u:=.lst vs.reverse) sb hq2
  have hp:h'.get? (s1.heap.objs.size+1)=some { cls:=.type "list",dict:=none,data:=.seq acc c,slots:=#[] }:=by rw [<-hsz]; exact hp
  have goal:EP X pins σ Q (.ref (s1.heap.objs.size+1)) { s1 with heap:=h',toks:=tk }:=
   ⟨.ref (s1.heap.objs.size+1),_,I1.laid (t':=tk) (o:=.lst vs.reverse) kp2 (d6 _) ⟨by rw [List.length_reverse]; exact hz,acc.toList,c,qbn rv hi,by simpa using hp⟩,rfl,po _ _ _ s2 c2 ⟨_,rfl,hq2,f2,_,qw,Gp t⟩⟩
  rw [<-hsz] at goal
  exact goal
 | _=>exact po.elim
end
end L2.D2
namespace L2.D2
open PySem PySem.Spec PyProof.Rows
variable {A:Around} {s:Shared} {items:Array Value}
section
variable {prog:Program} {w:World} {E:Value->Shared->Prop}
theorem Xd:typeLookup (.type "list") "keys"=pure none:=by rw [typeLookup_type,builtinLookup_eq_fast]; kernel_rfl
theorem gD {a:Addr} {o:Obj} {xs:Array Value} {k:Nat} {Q:Option Value->Shared->Prop} (hh:A.handled=none) (hx:s.heap.get? a=some o) (hc:o.cls=.type "list") (hdat:o.data=.seq xs k) (hd:o.dict=none)
  (h:∀ h' tk,(∀ b ob,s.heap.get? b=some ob->h'.get? b=some ob)->Q none { s with heap:=h',toks:=tk }):wpAny (model prog w) A (getAttr? (.ref a) "keys") Q E s:=by
 obtain ⟨c,dct,dat,sl⟩:=o
 simp only at hc hdat hd
 subst hc hdat hd
 obtain ⟨hp,g,d,tk,os⟩:=s
 have hT:∀ tk',(⟨hp,g,d,tk',os⟩:Shared).TypeIs (.ref a) "list":=fun _=>⟨_,hx,rfl⟩
 have f1:=sub_AttributeError
 have f3:=dj.lookup
 have f4:=dj.bind (.ref a)
 have f5:=am_list_getattr_none
 have f6:=Xd
 have hnm:(["__module__", "__name__", "__qualname__", "__doc__", "__annotations__"]:List Str).contains ("keys":Str)=false:=by decide +kernel
 have hsz:("keys":Str).length+100<=sizeLine:=by rw [sizeLine_eq]; decide +kernel
 unfold getAttr? getAttrBy?
 refine wpAny_bind (wpAny_mkText (wpAny_bind (wpAny_attempt ?_)))
 unfold getAttrBy
 repeat (any_goals (first | assumption | exact hT _ | ((with_reducible show wpAny _ _ (call (dh "list.__getattribute__") _ _) _ _ _); refine call_meets dj (hT _) am_entry_list_getattribute (F.args_list_getattribute_2 _ _) (meets_getattribute_miss_list a xs k sl "keys" _ f6 hnm hsz) ⟨hx,hh,fun h' tk' e hx'=>?_⟩) | wp_step))
 obtain ⟨t',u',he⟩:=hx'.there
 show wpAny _ _ (getattributeRaised _ _ _ _ _ _ _) _ _ _
 unfold getattributeRaised
 repeat (any_goals (first | assumption | wp_step))
 exact h h' tk' hx'.keeps
theorem Gq {R:Result->Shared->Prop} {d it t:Addr} (hh:A.in1.handled=none) (hdt:d≠t) (hdi:d≠it) (hti:t≠it):∀ (n i:Nat) (s:Shared) (kvs:List (Key×Value)) (ps:List (Key×Value×Value)),items.size - i=n->i<=items.size ->
  s.heap.IsListIter it t i->s.heap.IsList t items->s.heap.DictOf (jg prog w) d kvs->ps.length=n->(∀ j p,ps[j]?=some p->∃ v,items[i+j]?=some v/\zW p.1 p.2.1=true/\ZD s.heap v p.2.1 p.2.2)->kvs.length+n<=sizeLine ->
  (∀ h' tk,h'.DictOf (jg prog w) d (ps.foldl (fun l p=>stored l p.1 p.2.2) kvs)->(∀ b o,b≠d->b≠it->s.heap.get? b=some o->h'.get? b=some o)->R (.ok (.ret .none)) { s with heap:=h',toks:=tk }) ->
  codeAny (model prog w) A (.builtin "dict.update.loop" ⟨[.ref d,.ref it,rawInt i,.none],[]⟩) R s:=by
 intro n
 induction n with
 | zero=>
  intro i s kvs ps hn hi st ht hd hl hp hz hR
  have e:ps=[]:=List.length_eq_zero_iff.mp hl
  subst e
  refine codeAny_builtin ze ?_
  rw [bn ky _]
  show wpAny _ A.in1 (pyNext (.ref it) >>= _) _ _ s
  refine wpAny_bind (wpAny_pyNext_list_end hh st ht (by simp; omega) fun h' eb=>?_)
  show wpAny _ A.in1 (ret cC) _ _ _
  refine wpAny_pure (hR h' s.toks ?_ fun b o _ h2 e=>eb b o h2 e)
  obtain ⟨o,es,ep,ho,r⟩:=hd
  exact ⟨o,es,ep,eb d o hdi ho,r⟩
 | succ n ih=>
  intro i s kvs ps hn hi st ht hd hl hp hz hR
  cases ps with
  | nil=>simp at hl
  | cons p ps=>
   obtain ⟨v,hv,hk,q,oq,nq,rfl,hq,hqc,hqd⟩:=hp 0 p rfl
   obtain ⟨od,es,ep,hod,hdx,hrest⟩:=id hd
   have nqd:q≠d:=fun z=>by
    subst z
    rw [hq] at hod; cases hod
    rw [hrest.1] at hqd; cases hqd
   obtain ⟨oi,hoi,hic,hid⟩:=id st
   have nqi:q≠it:=fun z=>by
    subst z
    rw [hq] at hoi; cases hoi
    rw [hid] at hqd; cases hqd
   refine codeAny_builtin ze ?_
   rw [bn ky _]
   show wpAny _ A.in1 (pyNext (.ref it) >>= _) _ _ s
   refine wpAny_bind (wpAny_pyNext_list_item st ht (x:=.ref q) (by simpa using hv) fun h' st' sb=>?_)
   have hq':h'.get? q=some oq:=(sb.2 q nqi).trans hq
   have hTq:et { s with heap:=h' } (.ref q) "tuple":=⟨oq,hq',hqc⟩
   have hd':h'.DictOf (jg prog w) d kvs:=by
    obtain ⟨o,es,ep,ho,r⟩:=hd
    exact ⟨o,es,ep,(sb.2 d hdi).trans ho,r⟩
   have ht':h'.IsList t items:=by
    obtain ⟨o,ho,r⟩:=ht
    exact ⟨o,(sb.2 t hti).trans ho,r⟩
   dsimp only
   refine wpAny_bind (wpAny_holding (wpAny_bind ?_))
   refine wpAny_tryCatch ?_
   unfold Builtin.Dict.pairItems
   refine wpAny_bind (wpAny_typeOf hTq ?_)
   rw [if_pos (by decide)]
   refine wpAny_bind (wpAny_seqItems hq' hqd (wpAny_pure ?_))
   show wpAny _ A.in1 (holding [p.2.1,p.2.2] (dictSet d p.2.1 p.2.2)) _ _ _
   refine wpAny_holding (wpAny_dictSet_pairs (knd:=jg prog w) hk hd' (fun h2 hd2 sb2=>?_) (by omega))
   have keep:∀ b o,b≠d->b≠it->s.heap.get? b=some o->h2.get? b=some o:=fun b o n1 n2 e=>(sb2.2 b n1).trans ((sb.2 b n2).trans e)
   have hlen:(stored kvs p.1 p.2.2).length<=kvs.length+1:=by
    unfold stored
    split <;> simp
   refine wpAny_pure ⟨plainId_quiet ky _,?_⟩
   have ec:rawInt ((i:Int)+1)=rawInt ((i+1:Nat):Int):=by push_cast; rfl
   rw [ec]
   refine ih (i+1) _ (stored kvs p.1 p.2.2) ps (by omega) (by omega) ?_ ?_ hd2 (by simpa using hl) (fun j p' e=>?_) (by omega) fun h3 tk hd3 k3=>?_
   ·obtain ⟨o,e,r⟩:=st'
    exact ⟨o,(sb2.2 it (aX hdi)).trans e,r⟩
   ·obtain ⟨o,e,r⟩:=ht'
    exact ⟨o,(sb2.2 t (aX hdt)).trans e,r⟩
   ·obtain ⟨v',hv',hk',q',oq',nq',rfl,hq2,hqc2,hqd2⟩:=hp (j+1) p' (by simpa using e)
    refine ⟨.ref q',by rw [show i+1+j=i+(j+1) by omega]; exact hv',hk',q',oq',nq',rfl,keep q' oq' (fun z=>?_) (fun z=>?_) hq2,hqc2,hqd2⟩
    ·subst z
     rw [hq2] at hod; cases hod
     rw [hrest.1] at hqd2; cases hqd2
    ·subst z
     rw [hq2] at hoi; cases hoi
     rw [hid] at hqd2; cases hqd2
   ·exact hR h3 tk hd3 fun b o n1 n2 e=>k3 b o n1 n2 (keep b o n1 n2 e)
theorem zx {t:Addr} {ps:List (Key×Value×Value)} {Q:Value->Shared->Prop} (hh:A.handled=none) {ot:Obj} {nt:Nat} (hot:s.heap.get? t=some ot) (hotc:ot.cls=.type "list") (hotd:ot.dict=none) (hots:ot.data=.seq items nt)
  (hl:ps.length=items.size) (hp:∀ (j:Nat) (p:Key×Value×Value),ps[j]?=some p->∃ v,items[j]?=some v/\zW p.1 p.2.1=true/\ZD s.heap v p.2.1 p.2.2) (hz:items.size<=sizeLine)
  (h:∀ h' tk,h'.DictOf (jg prog w) s.heap.objs.size (ps.foldl (fun l p=>stored l p.1 p.2.2) [])->(∀ b o,s.heap.get? b=some o->h'.get? b=some o)->Q (.ref s.heap.objs.size) { s with heap:=h',toks:=tk }) :
  wpAny (model prog w) A (call (.type "dict") [.ref t]) Q E s:=by
 refine callType_codes (Q₁:=fun obj s₁=>obj=.ref s.heap.objs.size/\s₁={ s with heap:=s.heap.push { cls:=.type "dict",data:=.dict #[] } }) F.kt_called_dict (F.kt_typeCall_dict_1 _) F.entry_dict_init (kt_code_dict_new _ ⟨rfl,rfl⟩) ?_
 rintro obj s₁ ⟨rfl,rfl⟩
 have hnew:(s.heap.push { cls:=.type "dict",data:=.dict #[] }).DictOf (jg prog w) s.heap.objs.size []:=Heap.DictOf.new s.heap
 refine ⟨hnew.typeIs,F.args_dict_init_2 _ _,?_⟩
 unfold Builtin.«dict.__init__»
 refine wpAny_bind ?_
 unfold Builtin.Dict.selfAndRest
 refine wpAny_bind (wpAny_notOrdered_dict hnew.typeIs ?_)
 show wpAny _ _ (pure (s.heap.objs.size,[bN t])) _ _ _
 refine wpAny_pure ?_
 show wpAny _ _ (Builtin.Dict.updateFrom "dict.__init__" s.heap.objs.size (.ref t) [] .none) _ _ _
 unfold Builtin.Dict.updateFrom
 have hot':(s.heap.push { cls:=.type "dict",data:=.dict #[] }).get? t=some ot:=aa _ hot
 have hlt:t < s.heap.objs.size:=am hot
 refine wpAny_bind (wpAny_typeOf (T := "list") ⟨ot,hot',hotc⟩ ?_)
 rw [if_pos (by decide)]
 refine wpAny_bind (gD (by exact hh) hot' hotc hots hotd fun h1 tk1 k1=>?_)
 rw [if_pos (show (none:Option Value).isNone=true from rfl)]
 refine wpAny_bind (wpAny_rule ?_)
 have ht1:h1.get? t=some ot:=k1 _ _ hot'
 have hd1:h1.DictOf (jg prog w) s.heap.objs.size []:=by
  obtain ⟨o,es,ep,ho,r⟩:=hnew
  exact ⟨o,es,ep,k1 _ _ ho,r⟩
 have htup:h1.IsList t items:=⟨ot,ht1,hotc,nt,hots⟩
 refine wpAny_bind (wpAny_pyIter_list (s:={ s with heap:=h1,toks:=tk1 }) htup ?_)
 have hs1:s.heap.objs.size < h1.objs.size:=let ⟨o,es,ep,ho,r⟩:=hd1; am ho
 have up:∀ b o,s.heap.get? b=some o->(h1.push { cls:=.type "list_iterator",data:=.fields #[.ref t,.int 0 0] }).get? b=some o:=fun b o e=>aa _ (k1 _ _ (aa _ e))
 refine wpAny_pure ⟨plainId_quiet ky _,?_⟩
 refine Gq (items:=items) (t:=t) (A:=A.in1) (show A.in1.in1.handled=none from hh) (cz hlt) (aA hs1) (aA (dF hlt hs1)) items.size 0 _ [] ps (by omega) (bB _) ⟨_,ah _ rfl,rfl,rfl⟩ ?_ ?_ hl (fun j p e=>?_) (by simpa using hz) fun h2 tk2 hd2 k2=>⟨rfl,h h2 tk2 hd2 fun b o e=>?_⟩
 ·exact ⟨ot,aa _ ht1,hotc,nt,hots⟩
 ·obtain ⟨o,es,ep,ho,r⟩:=hd1
  exact ⟨o,es,ep,aa _ ho,r⟩
 ·obtain ⟨v,hv,hk,q,oq,nq,rfl,hq,r⟩:=hp j p e
  exact ⟨.ref q,by simpa using hv,hk,q,oq,nq,rfl,up q oq hq,r⟩
 ·have hb:=am e
  exact k2 b o (aA hb) (aA (dF hb hs1)) (up b o e)
end
noncomputable def Vs:D->Out D
 | .lst ds=>match zf ds with
  | some ps=>.ok (.dct (ps.foldl (fun l p=>Wu l p.1 p.2) []))
  | none=>.bad
 | _=>.bad
section
variable {X:Cx} {C:Ct} {pins:List (Addr×Obj)} {σ:St} {F H:Hp}
theorem qbo (hK:C.K=X.K) (hc:X.calm=true):Jj X C .fr (.type "dict") Vs:=by
 intro pins s σ H xs us Q I r h
 obtain ⟨x,F,dx,rfl,sb,tx,po⟩:=h
 cases dx <;> try exact po.elim
 rename_i ds
 unfold Vs at po
 cases q:zf ds with
 | none=>simp only [q] at po; exact po.elim
 | some ps=>
  simp only [q] at po
  obtain ⟨a,vs,rfl,hq,t⟩:=tx.lst sb
  obtain ⟨u,rfl,ru⟩:=yi r
  cases ru
  have hq':SqL X.K H a vs:=by rw [<-hK]; exact hq
  obtain ⟨its,rv,⟨o,n,ho,hcl,hdn,hd⟩,hz⟩:=I.list hq'
  obtain ⟨pv,tr,h1,h2,h3,h3',h4⟩:=UR hK I sb t rv q
  have hlen:=rv.length
  refine zx (ps:=tr) (I.ok.hd hc) ho hcl hdn hd (by simp [h3]) (fun j p e=>?_) (by simp; omega) fun h' tk hd' kp=>?_
  ·obtain ⟨v,e1,e2⟩:=h4 j p e
   exact ⟨v,by simpa using e1,e2⟩
  ·have hp:H s.heap.objs.size=none:=I.hok.fresh (ao _)
   obtain ⟨s2,c2,hF⟩:=vf (u:=.dK (pv.foldl (fun l p=>Qo l p.1 p.2) [])) sb hp
   have hl:(pv.foldl (fun l p=>Qo l p.1 p.2) ([]:List (Key×V))).length<=sizeLine:=by
    have:=@UQ pv []
    simp at this
    omega
   have hsys:(s.heap.objs.size == sysModules)=false:=beq_eq_false_iff_ne.mpr (cz I.big)
   refine ⟨.ref s.heap.objs.size,_,I.laid (o:=.dK (pv.foldl (fun l p=>Qo l p.1 p.2) [])) (t':=tk) kp (ao _) (qb2 hl hsys (ZE h2 .nil) hd'),rfl,po _ F _ s2 c2 ⟨_,rfl,hp,hF,_,qw,UP h1 .nil⟩⟩
end
open PySem.SeqAt
open AutoSeq1 (wpAny_loadPart')
open MeetsSeq MeetsSeq2 MeetsSeq3
def RcLtAt (A:Around) (s:Shared) (y x:Value) (b:Bool):Prop:=
 ∀ (prog:Program) (w:World) (E:Value->Shared->Prop) (Q:Value->Shared->Prop),Q (.bool b) s->wpAny (model prog w) A (richCompare .Lt y x) Q E s
def LtL (A:Around) (s:Shared) (k b:Bool):List (Value×Value)->Prop
 | []=>b=k
 | (y,x)::t=>(EqAt A.in1 s y x true/\LtL A s k b t)\/(EqAt A.in1 s y x false/\RcLtAt A.in1 s y x b)
theorem Xe (l b:Addr) (items items2:Array Value) (n n2:Nat) (dd dd2:Option Addr) (sl sl2:Array (Option Value)) (c:Bool) :
  Meets (Builtin.«tuple.__lt__» ⟨[.ref l,.ref b],[]⟩)
   (fun A R s=>s.heap.get? l=some { cls:=.type "tuple",dict:=dd,data:=.seq items n,slots:=sl }/\s.heap.get? b=some { cls:=.type "tuple",dict:=dd2,data:=.seq items2 n2,slots:=sl2 } /\
    LtL A s (decide (items.size < items2.size)) c (items.toList.zip items2.toList)/\R (.ok (.ret (.bool c))) s):=
 .of_wp fun prog w A R s h=>by
  obtain ⟨hp,g,d,tk,os⟩:=s; obtain ⟨hl,hb,he,h⟩:=h
  have f2:=AutoSeq1.sub_tuple_tuple
  wp_walk using wpAny_loadPart' hl,wpAny_loadPart' hb,wpAny_forIn_list _ (fun rest b s'=>b.1=none/\s'=⟨hp,g,d,tk,os⟩/\LtL A ⟨hp,g,d,tk,os⟩ (decide (items.size < items2.size)) c rest) _
  case turn=>
   rintro ⟨y,x⟩ rest b s' ⟨hb',rfl,hz⟩
   rcases hz with ⟨e1,hz⟩ | ⟨e1,hz⟩
   ·refine wpAny_bind (e1 prog w _ _ ?_)
    wp_walk
    exact ⟨rfl,rfl,hz⟩
   ·refine wpAny_bind (e1 prog w _ _ ?_)
    refine wpAny_bind (wpAny_rule (wpAny_bind (hz prog w _ _ ?_)))
    wp_walk
    exact ⟨_,rfl,h⟩
  case fin=>
   rintro ⟨b1,b2⟩ s' ⟨hb',rfl,hz⟩
   simp only at hb'
   subst hb'
   have hz:c=_:=hz
   subst hz
   wp_walk
   exact ⟨_,rfl,by simpa [Builtin.Tuple.tupleCompareSizes] using h⟩
  case h=>
   exact ⟨rfl,rfl,he⟩
theorem RcLtAt.tuples {l b:Addr} {items2:Array Value} {c:Bool} (hl:s.heap.IsTuple l items) (hb:s.heap.IsTuple b items2) (hu:A.units < cLine)
  (he:LtL A s (decide (items.size < items2.size)) c (items.toList.zip items2.toList)):RcLtAt A s (.ref l) (.ref b) c:=fun prog w E Q h=>by
 obtain ⟨⟨cls,dd,data,sl⟩,ho,hc,n,hd⟩:=id hl
 obtain ⟨⟨cls2,dd2,data2,sl2⟩,ho2,hc2,n2,hd2⟩:=id hb
 simp only at hc hd hc2 hd2
 subst hc hd hc2 hd2
 exact richCompare_meets_room (op:=.Lt) ⟨_,ho,rfl⟩ ⟨_,ho2,rfl⟩ F.slot_tuple_lt F.entry_tuple_lt (F.args_tuple_lt_2 _ _) (Xe l b items items2 n n2 dd dd2 sl sl2 c)
  ⟨ho,ho2,he,show aP c≠Value.notImplemented/\Q (.bool c) s from ⟨(fun x=>nomatch x),h⟩⟩ hu
end L2.D2
namespace L2.D2
open PySem PySem.Spec PyProof.Rows
open PySem.SeqAt
end L2.D2
namespace L2.D2
open PySem PySem.Spec PyProof.Rows
open AutoSeq1 (wpAny_loadPart')
end L2.D2
namespace L2.D2
open PySem PySem.Spec PyProof.Rows
end L2.D2
namespace L2.D2
open PySem PySem.Spec PyProof.Rows PySem.W
end L2.D2
namespace L2.D2
open PySem PySem.Spec PyProof.Rows
end L2.D2
namespace L2.D2
open PySem PySem.Spec PyProof.Rows PySem.W
variable {s:Shared}
section
variable {prog:Program} {w:World} {A:Around} {E:Value->Shared->Prop}
variable {z TI TO i1 i2:Addr} {fp1 fp2:List Addr} {n1 n2 i:Nat} {P1 P2:Nat->Value->Prop} {S1 S2:Nat->Heap->Prop} {a b:Value}
end
theorem ad {x y:Nat} (h:x < y\/y < x):x≠y:=by omega
section
variable {X:Cx} {pins:List (Addr×Obj)} {σ:St} {H H':Hp} {h':Heap}
theorem Inv.grown {t':Nat} (I:Inv X pins σ H s) (k:∀ b u,s.heap.get? b=some u->h'.get? b=some u) (old:∀ b o,H b=some o->H' b=some o) (low:∀ b,b < s.heap.objs.size->H b=none->H' b=none)
  (new:∀ b o,H b=none->H' b=some o->ObjOk X.prog X.w H' h' b o):Inv X pins σ H' { s with heap:=h',toks:=t' }:=by
 refine I.un ⟨fun b u q _ _ _=>k b u q,fun b u q _ _ _=>⟨u.slots,k b u q⟩,fun b u q n _=>low b (am q) n,fun b u q _=>⟨u,k b u q⟩,fun b xs q=>old _ _ q,fun b u xs q=>old _ _ q,fun b ps q=>⟨#[],by rw [old _ _ q]; simp⟩⟩ fun b u e=>?_
 cases q:H b with
 | none=>exact new b u q e
 | some o=>
  have:=old b o q
  rw [e] at this
  cases this
  exact (I.hok b u q).stay (fun c v _ q=>k c v q) (fun c q=>old _ _ q) fun c xs q=>old _ _ q
end
end L2.D2
namespace L2.D2
open PySem PySem.Spec PyProof.Rows
end L2.D2
set_option maxHeartbeats 4000000
namespace Kx
open PySem PySem.Spec PyProof.Rows L2 L2.D2
noncomputable def top (i:Nat):Stmt:=PySem.Challenge.pw_lookwords_k12_counted_refused.main.body.getD i (.Pass ⟨0,0,0,0⟩)
noncomputable def CS:List Str:=["NoWords", "NoLook", "NoNumbers", "NoRoom", "NoWord", "NoWorths", "Never", "Full", "Known", "NoPlace", "NoLetters", "NoText", "Nothing"]
noncomputable def FS:List Str:=["how_many", "left_out", "mended", "place_of", "worths_at"]
structure Zt (K:Frag) (mg:Str->Option Value) (cv:Str->Value) (ca:Str->Addr):Prop where
 xs:Xs K cv ca CS "WordError"
 mref:∀ c∈CS,mg c=some (.ref (ca c))
 xin:∀ c∈CS,dg K (ca c) bmV "ValueError.__new__"=true
 fref:∀ x∈FS,mg x=some (.ref (ca x))
 m_WordError:mg "WordError"=some (cv "WordError")
 z_ValueError:mg "ValueError"=none
 z_all:mg "all"=none
 z_bool:mg "bool"=none
 z_dict:mg "dict"=none
 z_enumerate:mg "enumerate"=none
 z_int:mg "int"=none
 z_isinstance:mg "isinstance"=none
 z_len:mg "len"=none
 z_list:mg "list"=none
 z_max:mg "max"=none
 z_min:mg "min"=none
 z_range:mg "range"=none
 z_reversed:mg "reversed"=none
 z_set:mg "set"=none
 z_sorted:mg "sorted"=none
 z_str:mg "str"=none
 z_tuple:mg "tuple"=none
 c_LEAST_PLACE:∃ t,mg "LEAST_PLACE"=some (.int (-3) t)
 c_MOST_LETTERS:∃ t,mg "MOST_LETTERS"=some (.int 6 t)
 c_MOST_PLACE:∃ t,mg "MOST_PLACE"=some (.int 2 t)
 c_MOST_ROOM:∃ t,mg "MOST_ROOM"=some (.int 99 t)
 c_MOST_WORDS:∃ t,mg "MOST_WORDS"=some (.int 6 t)
 s_NoWorths:bu K (.ref (ca "NoWorths")) (.ref (ca "NoWorths"))=some true
theorem JC:bootBuiltins "ValueError"=some (.type "ValueError"):=by decide +kernel
theorem Vt:bootBuiltins "all"=some (.builtin "all"):=by decide +kernel
theorem qdo:bootBuiltins "bool"=some (.type "bool"):=by decide +kernel
theorem qdp:bootBuiltins "dict"=some (.type "dict"):=by decide +kernel
theorem qfa:bootBuiltins "int"=some (.type "int"):=by decide +kernel
theorem qy:bootBuiltins "isinstance"=some (.builtin "isinstance"):=by decide +kernel
theorem jA:bootBuiltins "len"=some (.builtin "len"):=by decide +kernel
theorem gE:bootBuiltins "list"=some (.type "list"):=by decide +kernel
theorem qfb:bootBuiltins "max"=some (.builtin "max"):=by decide +kernel
theorem qfc:bootBuiltins "min"=some (.builtin "min"):=by decide +kernel
theorem qbp:bootBuiltins "range"=some (.type "range"):=by decide +kernel
theorem WF:bootBuiltins "reversed"=some (.type "reversed"):=by decide +kernel
theorem Ye:bootBuiltins "set"=some (.type "set"):=by decide +kernel
theorem yT:bootBuiltins "sorted"=some (.builtin "sorted"):=by decide +kernel
theorem qca:bootBuiltins "str"=some (.type "str"):=by decide +kernel
theorem kQ:bootBuiltins "tuple"=some (.type "tuple"):=by decide +kernel
instance {α:Type}:Inhabited (Out α):=⟨.bad⟩
section
variable {P:Program} {w:World} {K:Frag} {mg:Str->Option Value} {base:Heap} {cv:Str->Value} {ca:Str->Addr}
abbrev uL:Stmt:=top 70
abbrev QP:List Str:=["_law_script", "_law_k"]
theorem WG:FnScope QP ["_law_script", "_law_k"] (qe uL):=⟨rfl,rfl,rfl,by decide +kernel,rfl,by decide +kernel,by decide +kernel⟩
noncomputable def we:Sl->Out (Fl×Sl):=(qZ (sIf (jl (d2 ltD (ql 1) (d1 kt (ql 0)))) (jI (d2 ixD (ql 0) (ql 1))) jt)
  (qZ (sIf (jl (d2 eqD (ql 0) (wt qE))) (jI (dC (.int 0))) jt)
  (jI (d2 kI (d2 Xw (d2 ixD (ql 0) (d2 xo (ql 1) (d1 kt (ql 0)))) (dC (.int 31))) (ql 1)))))
noncomputable abbrev xz:List D->Out (D×List D):=jT QP [.val,.val] (we)
abbrev gF P w K mg base cv:=DefOk P w K mg base cv 1 "_law_cell_at" ["_law_script", "_law_k"] [.val,.val] .sh (xz)
theorem WH (Z:Zt K mg cv ca) (T:qU K mg "_law_cell_at" uL ["_law_script", "_law_k"]):gF P w K mg base cv:=
 qF (k:=0) (own':=[]) (fb:=we) T WG fun cdv f A outer s H E hr=>(qm (ji (qP qey (vr 1) (qI (jD rfl) rfl Z.z_len jA (vr 0))) (qp (qr (ju rfl hr.units (vr 0) (vr 1) (fun _ _=>rfl)))) qM)
  (qm (ji (qP (ya rfl hr.units) (vr 0) (jC qf)) (qp (qr qt)) qM)
  (qp (qr (qO (jv rfl) (qO KI (ju rfl hr.units (vr 0) (qO vw (vr 1) (qI (jD rfl) rfl Z.z_len jA (vr 0))) (fun _ _=>rfl)) qt) (vr 1))))))
abbrev zK:Stmt:=top 71
abbrev Yg:List Str:=["_law_script", "_law_k", "_law_many", "_law_drawn"]
theorem sc_Lmixed:FnScope Yg ["_law_script", "_law_k", "_law_many"] (qe zK):=⟨rfl,rfl,rfl,by decide +kernel,rfl,by decide +kernel,by decide +kernel⟩
noncomputable def JD:Sl->Out (Fl×Sl):=(qZ (ka 3 (d2 xo (d2 kI (d2 kI (d2 Xw (qx [.vl,.vl] xz (qd (ql 0) (qd (ql 1) qE))) (dC (.int 1103515245))) (d2 Xw (dC (.int 7919)) (ql 1))) (dC (.int 12345))) (dC (.int 2147483647))))
  (jI (d2 xo (d2 xo (d2 xo (d2 qgS (ql 3) (dC (.int 5))) (dC (.int 2147483647))) (dC (.int 999983))) (ql 2))))
noncomputable abbrev JE:List D->Out (D×List D):=jT Yg [.val,.val,.val] (JD)
abbrev Vu P w K mg base cv:=DefOk P w K mg base cv 2 "_law_mixed" ["_law_script", "_law_k", "_law_many"] [.val,.val,.val] .sh (JE)
theorem Gr (Z:Zt K mg cv ca) (T:qU K mg "_law_mixed" zK ["_law_script", "_law_k", "_law_many"]) (ok_Lcell_at:gF P w K mg base cv):Vu P w K mg base cv:=
 qF (k:=1) (own':=[]) (fb:=JD) T sc_Lmixed fun cdv f A outer s H E hr=>(qm (qJ (i:=3) sc_Lmixed.nd rfl (ap rfl) (qO vw (qO (jv rfl) (qO (jv rfl) (qO KI (qo ok_Lcell_at hr (by decide) qL rfl (qc (vr 0) (qc (vr 1) qf))) qt) (qO KI qt (vr 1))) qt) qt))
  (qp (qr (qO vw (qO vw (qO vw (qO qe3 (vr 3) qt) qt) qt) (vr 2)))))
abbrev JF:Stmt:=top 72
abbrev Gs:List Str:=["_law_script", "_law_town", "_law_many"]
theorem qbq:FnScope Gs ["_law_script", "_law_town", "_law_many"] (qe JF):=⟨rfl,rfl,rfl,by decide +kernel,rfl,by decide +kernel,by decide +kernel⟩
noncomputable def WJ:Sl->Out (Fl×Sl):=(qZ (vd (Kp 1 Qq (dC (.int 0))))
  (jI (qx [.vl,.vl,.vl] JE (qd (ql 0) (qd (d1 kt (ql 1)) (qd (ql 2) qE))))))
noncomputable abbrev jO:List D->Out (D×List D):=jT Gs [.val,.io,.val] (WJ)
abbrev uM P w K mg base cv:=DefOk P w K mg base cv 3 "_law_draw" ["_law_script", "_law_town", "_law_many"] [.val,.io,.val] .sh (jO)
theorem qbr (Z:Zt K mg cv ca) (T:qU K mg "_law_draw" JF ["_law_script", "_law_town", "_law_many"]) (ok_Lmixed:Vu P w K mg base cv):uM P w K mg base cv:=
 qF (k:=2) (own':=[1]) (fb:=WJ) T qbq fun cdv f A outer s H E hr=>(qm (jq (ui (i:=1) rfl rfl (ap rfl) (by decide) qt))
  (qp (qr (qo ok_Lmixed hr (by decide) qL rfl (qc (vr 0) (qc (qI (jD rfl) rfl Z.z_len jA (vb (i:=1) rfl (ap rfl) (by decide))) (qc (vr 2) qf)))))))
abbrev JG:Stmt:=top 73
abbrev Gu:List Str:=["_law_script", "_law_town", "_law_some"]
theorem qbs:FnScope Gu ["_law_script", "_law_town", "_law_some"] (qe JG):=⟨rfl,rfl,rfl,by decide +kernel,rfl,by decide +kernel,by decide +kernel⟩
noncomputable def WK:Sl->Out (Fl×Sl):=(jI (d2 ixD (ql 2) (qx [.vl,.sl 1,.vl] jO (qd (ql 0) (jQ (qd (d1 kt (ql 2)) qE))))))
noncomputable abbrev wC:List D->Out (D×List D):=jT Gu [.val,.io,.val] (WK)
abbrev uN P w K mg base cv:=DefOk P w K mg base cv 4 "_law_pick" ["_law_script", "_law_town", "_law_some"] [.val,.io,.val] .sh (wC)
theorem qbt (Z:Zt K mg cv ca) (T:qU K mg "_law_pick" JG ["_law_script", "_law_town", "_law_some"]) (ok_Ldraw:uM P w K mg base cv):uN P w K mg base cv:=
 qF (k:=3) (own':=[1]) (fb:=WK) T qbs fun cdv f A outer s H E hr=>(qp (qr (ju rfl hr.units (vr 2) (qo ok_Ldraw hr (by decide) qL rfl (qc (vr 0) (qQ (i:=1) rfl (ap rfl) (by decide) (qc (qI (jD rfl) rfl Z.z_len jA (vr 2)) qf)))) (fun _ _=>rfl))))
abbrev xA:Stmt:=top 74
abbrev WL:List Str:=["_law_script", "_law_town", "_law_letters_here", "_law_most"]
theorem qbu:FnScope WL ["_law_script", "_law_town", "_law_letters_here", "_law_most"] (qe xA):=⟨rfl,rfl,rfl,by decide +kernel,rfl,by decide +kernel,by decide +kernel⟩
noncomputable def WM:Sl->Out (Fl×Sl):=(jI (d1 (ZW "") (jw [1] 1 [0,1,2] (jE (d2 kI (dC (.int 1)) (qx [.vl,.sl 1,.vl] jO (qd (ql 0) (jQ (qd (ql 3) qE)))))) (gNm 0) ftT (qx [.vl,.sl 2,.vl] wC (qd (ql 1) (jQ (qd (ql 3) qE)))))))
noncomputable abbrev JH:List D->Out (D×List D):=jT WL [.val,.io,.val,.val] (WM)
abbrev Yh P w K mg base cv:=DefOk P w K mg base cv 5 "_law_word" ["_law_script", "_law_town", "_law_letters_here", "_law_most"] [.val,.io,.val,.val] .sh (JH)
theorem qbv (Z:Zt K mg cv ca) (T:qU K mg "_law_word" xA ["_law_script", "_law_town", "_law_letters_here", "_law_most"]) (ok_Ldraw:uM P w K mg base cv) (ok_Lpick:uN P w K mg base cv):Yh P w K mg base cv:=
 qF (k:=4) (own':=[1]) (fb:=WM) T qbu fun cdv f A outer s H E hr=>(qp (qr (qdg rfl (jz (N:=["_law_k", "_law_script", "_law_town", "_law_letters_here"]) (nt:=1) (cap:=[0,1,2]) rfl (vp (names:=(qe xA).names) rfl (by decide +kernel)) (jN (names:=(qe xA).names) (N:=WL) rfl rfl (by decide +kernel)) (jU rfl Z.z_range (qO (jv rfl) qt (qo ok_Ldraw hr (by decide) qL rfl (qc (vr 0) (qQ (i:=1) rfl (bC (ap rfl)) (by decide) (qc (vr 3) qf)))))) (fun fp L s1 H1=>(qB (i:=0) (show aS (["_law_k", "_law_script", "_law_town", "_law_letters_here"]:List Str) from by decide +kernel) rfl (ap rfl))) (fun fp L s1 H1=>ja) (fun fp L s1 H1=>(qo ok_Lpick hr (by decide) wy rfl (qc (vr 1) (qQ (i:=2) rfl (by first | exact bC (bC rfl) | exact bC (ap rfl)) (by decide) (qc (vr 3) qf)))))))))
abbrev zL:Stmt:=top 75
abbrev Yi:List Str:=["_law_script", "_law_town", "_law_most", "_law_letters_here", "_law_made", "_law_k", "_law_word_here"]
theorem sc_Lwords:FnScope Yi ["_law_script", "_law_town", "_law_most"] (qe zL):=⟨rfl,rfl,rfl,by decide +kernel,rfl,by decide +kernel,by decide +kernel⟩
noncomputable def JI:Sl->Out (Fl×Sl):=(qZ (ka 3 (qx [.vl,.sl 1,.vl] wC (qd (ql 0) (jQ (qd (wt fun ρ=>.ok ([(.lst [(.str "a"),(.str "b")]),(.lst [(.str "a"),(.str "b"),(.str "c")]),(.lst [(.str "a"),(.str "b"),(.str "c"),(.str "d")]),(.lst [(.str "k"),(.str "m"),(.str "z"),(.str "a"),(.str "e")])],ρ)) qE)))))
  (qZ (ka 4 (wt qE))
  (qZ (Wp (jE (d2 kI (dC (.int 1)) (qx [.vl,.sl 1,.vl] jO (qd (ql 0) (jQ (qd (ql 2) qE)))))) (gNm 5)
  (qZ (ka 6 (qx [.vl,.sl 1,.vl,.vl] JH (qd (ql 0) (jQ (qd (ql 3) (qd (dC (.int 6)) qE))))))
  (sIf (jl (d2 Jq (ql 6) (ql 4))) (vd (Kp 4 Qq (ql 6))) jt)))
  (jI (d1 gk (ql 4))))))
noncomputable abbrev JJ:List D->Out (D×List D):=jT Yi [.val,.io,.val] (JI)
abbrev Vv P w K mg base cv:=DefOk P w K mg base cv 6 "_law_words" ["_law_script", "_law_town", "_law_most"] [.val,.io,.val] .sh (JJ)
theorem Gv (Z:Zt K mg cv ca) (T:qU K mg "_law_words" zL ["_law_script", "_law_town", "_law_most"]) (ok_Ldraw:uM P w K mg base cv) (ok_Lpick:uN P w K mg base cv) (ok_Lword:Yh P w K mg base cv):Vv P w K mg base cv:=
 qF (k:=5) (own':=[1]) (fb:=JI) T sc_Lwords fun cdv f A outer s H E hr=>(qm (qJ (i:=3) sc_Lwords.nd rfl (ap rfl) (qo ok_Lpick hr (by decide) qL rfl (qc (vr 0) (qQ (i:=1) rfl (ap rfl) (by decide) (qc (wA 16 rfl) qf)))))
  (qm (kM (i:=4) sc_Lwords.nd rfl (ap rfl) (jC qf))
  (qm (vR bj rfl (jU rfl Z.z_range (qO (jv rfl) qt (qo ok_Ldraw hr (by decide) qL rfl (qc (vr 0) (qQ (i:=1) rfl (ap rfl) (by decide) (qc (vr 2) qf)))))) (qB (i:=5) sc_Lwords.nd rfl (ap rfl))
  (qm (qJ (i:=6) sc_Lwords.nd rfl (ap rfl) (qo ok_Lword hr (by decide) qL rfl (qc (vr 0) (qQ (i:=1) rfl (ap rfl) (by decide) (qc (vr 3) (qc qt qf))))))
  (qp (ji (qP (yP rfl hr.units) (vr 6) (vb (i:=4) rfl (ap rfl) (by decide))) (qp (jq (ui (i:=4) rfl rfl (ap rfl) (by decide) (vr 6)))) qM))))
  (qp (qr (kC (Jo rfl) rfl Z.z_tuple kQ (vb (i:=4) rfl (ap rfl) (by decide))))))))
abbrev JK:Stmt:=top 76
abbrev Gw:List Str:=["_law_script", "_law_town"]
theorem qbw:FnScope Gw ["_law_script", "_law_town"] (qe JK):=⟨rfl,rfl,rfl,by decide +kernel,rfl,by decide +kernel,by decide +kernel⟩
noncomputable def WO:Sl->Out (Fl×Sl):=(jI (ua (qd (d2 gc (qx [.vl,.sl 1,.vl] jO (qd (ql 0) (jQ (qd (dC (.int 6)) qE)))) (dC (.int 3))) (qd (d2 gc (qx [.vl,.sl 1,.vl] jO (qd (ql 0) (jQ (qd (dC (.int 6)) qE)))) (dC (.int 3))) qE))))
noncomputable abbrev WP:List D->Out (D×List D):=jT Gw [.val,.io] (WO)
abbrev Yj P w K mg base cv:=DefOk P w K mg base cv 4 "_law_look" ["_law_script", "_law_town"] [.val,.io] .sh (WP)
theorem qbx (Z:Zt K mg cv ca) (T:qU K mg "_law_look" JK ["_law_script", "_law_town"]) (ok_Ldraw:uM P w K mg base cv):Yj P w K mg base cv:=
 qF (k:=3) (own':=[1]) (fb:=WO) T qbw fun cdv f A outer s H E hr=>(qp (qr (jB (qc (qO xY (qo ok_Ldraw hr (by decide) qL rfl (qc (vr 0) (qQ (i:=1) rfl (ap rfl) (by decide) (qc qt qf)))) qt) (qc (qO xY (qo ok_Ldraw hr (by decide) qL rfl (qc (vr 0) (qQ (i:=1) rfl (ap rfl) (by decide) (qc qt qf)))) qt) qf)))))
abbrev Xf:Stmt:=top 77
abbrev qdq:List Str:=["_law_word_here", "_law_place", "_law_spots"]
theorem sc_Lat:FnScope qdq ["_law_word_here", "_law_place"] (qe Xf):=⟨rfl,rfl,rfl,by decide +kernel,rfl,by decide +kernel,by decide +kernel⟩
noncomputable def qfd:Sl->Out (Fl×Sl):=(qZ (ka 2 (jw [] 1 [1,0] (jE (d1 kt (ql 0))) (gNm 0) (dOr (jl (d2 eqD (ql 0) (ql 1))) (jl (d2 eqD (ql 0) (d2 kI (ql 1) (d1 kt (ql 2)))))) (ql 0)))
  (qZ (sIf (jl (d2 neD (ql 2) (wt qE))) (jI (d2 ixD (ql 0) (d2 ixD (ql 2) (dC (.int 0))))) jt)
  (jI (dIf (jl (d2 geD (ql 1) (dC (.int 0)))) (d2 ixD (ql 0) (d1 VX (dC (.int 1)))) (d2 ixD (ql 0) (dC (.int 0)))))))
noncomputable abbrev Gx:List D->Out (D×List D):=jT qdq [.val,.val] (qfd)
abbrev qcb P w K mg base cv:=DefOk P w K mg base cv 1 "_law_at" ["_law_word_here", "_law_place"] [.val,.val] .sh (Gx)
theorem qfe (Z:Zt K mg cv ca) (T:qU K mg "_law_at" Xf ["_law_word_here", "_law_place"]):qcb P w K mg base cv:=
 qF (k:=0) (own':=[]) (fb:=qfd) T sc_Lat fun cdv f A outer s H E hr=>(qm (zG (N:=["_law_at_here", "_law_place", "_law_word_here"]) (nt:=1) (cap:=[1,0]) sc_Lat.nd (i:=2) rfl (ap rfl) rfl (vp (names:=(qe Xf).names) rfl (by decide +kernel)) (jN (names:=(qe Xf).names) (N:=qdq) rfl rfl (by decide +kernel)) (jU rfl Z.z_range (qI (jD rfl) rfl Z.z_len jA (vr 0))) (fun fp L s1 H1=>(qB (i:=0) (show aS (["_law_at_here", "_law_place", "_law_word_here"]:List Str) from by decide +kernel) rfl (ap rfl))) (fun fp L s1 H1=>(Wq (PW.pt (yc (qP (ya rfl hr.units) (vr 0) (vr 1)) (kK (qP (ya rfl hr.units) (vr 0) (qO (jv rfl) (vr 1) (qI (jD rfl) rfl Z.z_len jA (vr 2))))))))) (fun fp L s1 H1=>(vr 0)))
  (wq [2] (qm (ji (qP (ge rfl hr.units) (vr 2) (jC qf)) (qp (qr (ju rfl hr.units (vr 0) (ju rfl hr.units (vr 2) qt (fun _ _=>rfl)) (fun _ _=>rfl)))) qM)
  (qp (qr (Zi (qP qeD (vr 1) qt) (ju rfl hr.units (vr 0) (KH zb qt) (fun _ _=>rfl)) (ju rfl hr.units (vr 0) qt (fun _ _=>rfl))))))))
abbrev xB:Stmt:=top 78
abbrev JL:List Str:=["_law_words_here", "_law_look_here"]
theorem qby:FnScope JL ["_law_words_here", "_law_look_here"] (qe xB):=⟨rfl,rfl,rfl,by decide +kernel,rfl,by decide +kernel,by decide +kernel⟩
noncomputable def WQ:Sl->Out (Fl×Sl):=(jI (jw [] 1 [1] (vx (ql 0)) (gNm 0) ftT (ua (qd (qx [.vl,.vl] Gx (qd (ql 0) (qd (d2 ixD (ql 1) (dC (.int 0))) qE))) (qd (qx [.vl,.vl] Gx (qd (ql 0) (qd (d2 ixD (ql 1) (dC (.int 1))) qE))) qE)))))
noncomputable abbrev gG:List D->Out (D×List D):=jT JL [.val,.val] (WQ)
abbrev JM P w K mg base cv:=DefOk P w K mg base cv 2 "_law_seen" ["_law_words_here", "_law_look_here"] [.val,.val] .sh (gG)
theorem qbz (Z:Zt K mg cv ca) (T:qU K mg "_law_seen" xB ["_law_words_here", "_law_look_here"]) (ok_Lat:qcb P w K mg base cv):JM P w K mg base cv:=
 qF (k:=1) (own':=[]) (fb:=WQ) T qby fun cdv f A outer s H E hr=>(qp (qr (jz (N:=["_law_word_here", "_law_look_here"]) (nt:=1) (cap:=[1]) rfl (vp (names:=(qe xB).names) rfl (by decide +kernel)) (jN (names:=(qe xB).names) (N:=JL) rfl rfl (by decide +kernel)) (jm rfl (vr 0)) (fun fp L s1 H1=>(qB (i:=0) (show aS (["_law_word_here", "_law_look_here"]:List Str) from by decide +kernel) rfl (ap rfl))) (fun fp L s1 H1=>ja) (fun fp L s1 H1=>(jB (qc (qo ok_Lat hr (by decide) wy rfl (qc (vr 0) (qc (ju rfl hr.units (vr 1) qt (fun _ _=>rfl)) qf))) (qc (qo ok_Lat hr (by decide) wy rfl (qc (vr 0) (qc (ju rfl hr.units (vr 1) qt (fun _ _=>rfl)) qf))) qf)))))))
abbrev uO:Stmt:=top 79
abbrev QQ:List Str:=["_law_words_here", "_law_look_here", "_law_made", "_law_pair"]
theorem sc_Lletters:FnScope QQ ["_law_words_here", "_law_look_here"] (qe uO):=⟨rfl,rfl,rfl,by decide +kernel,rfl,by decide +kernel,by decide +kernel⟩
noncomputable def xC:Sl->Out (Fl×Sl):=(qZ (ka 2 (wt qE))
  (qZ (Wp (vx (qx [.vl,.vl] gG (qd (ql 0) (qd (ql 1) qE)))) (gNm 3)
  (vd (Kp 2 Xx (d1 KZ (ql 3)))))
  (jI (d1 wz (ql 2)))))
noncomputable abbrev uP:List D->Out (D×List D):=jT QQ [.val,.val] (xC)
abbrev gH P w K mg base cv:=DefOk P w K mg base cv 3 "_law_letters" ["_law_words_here", "_law_look_here"] [.val,.val] .sh (uP)
theorem WR (Z:Zt K mg cv ca) (T:qU K mg "_law_letters" uO ["_law_words_here", "_law_look_here"]) (ok_Lseen:JM P w K mg base cv):gH P w K mg base cv:=
 qF (k:=2) (own':=[]) (fb:=xC) T sc_Lletters fun cdv f A outer s H E hr=>(qm (kM (i:=2) sc_Lletters.nd rfl (ap rfl) (jC qf))
  (qm (vR bj rfl (jm rfl (qo ok_Lseen hr (by decide) qL rfl (qc (vr 0) (qc (vr 1) qf)))) (qB (i:=3) sc_Lletters.nd rfl (ap rfl))
  (qp (jq (gj (i:=2) rfl (ap rfl) (by decide) (kC (Wt rfl) rfl Z.z_list gE (vr 3))))))
  (qp (qr (xx rfl rfl rfl Z.z_sorted yT rfl Z.z_set Ye (vb (i:=2) rfl (ap rfl) (by decide)))))))
abbrev Xg:Stmt:=top 80
abbrev qbA:List Str:=["_law_words_here", "_law_look_here", "_law_room", "_law_book"]
theorem qff:FnScope qbA ["_law_words_here", "_law_look_here", "_law_room", "_law_book"] (qe Xg):=⟨rfl,rfl,rfl,by decide +kernel,rfl,by decide +kernel,by decide +kernel⟩
noncomputable def qdr:Sl->Out (Fl×Sl):=(jI (d1 gk (jw [] 2 [2,3] (vx (qx [.vl,.vl] gG (qd (ql 0) (qd (ql 1) qE)))) (ko 2 (qG (gNm 0) (qG (gNm 1) kn))) ftT (d2 xo (d2 kI (d2 ixD (ql 3) (ql 0)) (d2 ixD (ql 3) (ql 1))) (ql 2)))))
noncomputable abbrev qds:List D->Out (D×List D):=jT qbA [.val,.val,.val,.val] (qdr)
abbrev qcc P w K mg base cv:=DefOk P w K mg base cv 3 "_law_by" ["_law_words_here", "_law_look_here", "_law_room", "_law_book"] [.val,.val,.val,.val] .sh (qds)
theorem qfg (Z:Zt K mg cv ca) (T:qU K mg "_law_by" Xg ["_law_words_here", "_law_look_here", "_law_room", "_law_book"]) (ok_Lseen:JM P w K mg base cv):qcc P w K mg base cv:=
 qF (k:=2) (own':=[]) (fb:=qdr) T qff fun cdv f A outer s H E hr=>(qp (qr (kC (Jo rfl) rfl Z.z_tuple kQ (jz (N:=["_law_one", "_law_other", "_law_room", "_law_book"]) (nt:=2) (cap:=[2,3]) rfl (vp (names:=(qe Xg).names) rfl (by decide +kernel)) (jN (names:=(qe Xg).names) (N:=qbA) rfl rfl (by decide +kernel)) (jm rfl (qo ok_Lseen hr (by decide) qL rfl (qc (vr 0) (qc (vr 1) qf)))) (fun fp L s1 H1=>(wx rfl rfl (qN (qB (i:=0) (show aS (["_law_one", "_law_other", "_law_room", "_law_book"]:List Str) from by decide +kernel) rfl (ap rfl)) (qN (qB (i:=1) (show aS (["_law_one", "_law_other", "_law_room", "_law_book"]:List Str) from by decide +kernel) rfl (ap rfl)) kN)))) (fun fp L s1 H1=>ja) (fun fp L s1 H1=>(qO vw (qO (jv rfl) (ju rfl hr.units (vr 3) (vr 0) (fun _ _=>rfl)) (ju rfl hr.units (vr 3) (vr 1) (fun _ _=>rfl))) (vr 2)))))))
abbrev xD:Stmt:=top 81
abbrev JO:List Str:=["_law_script", "_law_town", "_law_most", "_law_wide", "_law_spoil", "_law_room", "_law_look_here", "_law_names", "_law_book", "_law_numbers", "_law_k"]
theorem sc_Ltold:FnScope JO ["_law_script", "_law_town", "_law_most", "_law_wide"] (qe xD):=⟨rfl,rfl,rfl,by decide +kernel,rfl,by decide +kernel,by decide +kernel⟩
noncomputable def WS:Sl->Out (Fl×Sl):=(qZ (ka 4 (qx [.vl,.sl 1,.vl] jO (qd (ql 0) (jQ (qd (dC (.int 4)) qE)))))
  (qZ (ka 5 (d2 kI (dC (.int 1)) (qx [.vl,.sl 1,.vl] jO (qd (ql 0) (jQ (qd (ql 3) qE))))))
  (qZ (ka 6 (qx [.vl,.sl 1] WP (qd (ql 0) (jQ qE))))
  (qZ (ka 7 (qx [.vl,.sl 1,.vl] JJ (qd (ql 0) (jQ (qd (ql 2) qE)))))
  (qZ (ka 8 (d1 Vs (jw [1] 1 [0,1,5] (vx (qx [.vl,.vl] uP (qd (ql 7) (qd (ql 6) qE)))) (gNm 0) ftT (ua (qd (ql 0) (qd (qx [.vl,.sl 2,.vl] jO (qd (ql 1) (jQ (qd (ql 3) qE)))) qE))))))
  (qZ (ka 9 (d1 KZ (qx [.vl,.vl,.vl,.vl] qds (qd (ql 7) (qd (ql 6) (qd (ql 5) (qd (ql 8) qE)))))))
  (qZ (Wp (jE (d2 Xw (d2 Jh (ql 4) (dC (.int 2))) (d2 kI (dC (.int 1)) (d2 xo (ql 4) (dC (.int 2)))))) (gNm 10)
  (Yc 9 (qx [.vl,.sl 1,.vl] jO (qd (ql 0) (jQ (qd (ql 5) qE)))) (qx [.vl,.sl 1,.vl] jO (qd (ql 0) (jQ (qd (d1 kt (ql 9)) qE))))))
  (jI (ua (qd (ql 7) (qd (ql 6) (qd (ql 5) (qd (d1 gk (ql 9)) qE)))))))))))))
noncomputable abbrev WT:List D->Out (D×List D):=jT JO [.val,.io,.val,.val] (WS)
abbrev Yk P w K mg base cv:=DefOk P w K mg base cv 7 "_law_told" ["_law_script", "_law_town", "_law_most", "_law_wide"] [.val,.io,.val,.val] .sh (WT)
theorem qbB (Z:Zt K mg cv ca) (T:qU K mg "_law_told" xD ["_law_script", "_law_town", "_law_most", "_law_wide"]) (ok_Ldraw:uM P w K mg base cv) (ok_Lwords:Vv P w K mg base cv) (ok_Llook:Yj P w K mg base cv) (ok_Lletters:gH P w K mg base cv) (ok_Lby:qcc P w K mg base cv):Yk P w K mg base cv:=
 qF (k:=6) (own':=[1]) (fb:=WS) T sc_Ltold fun cdv f A outer s H E hr=>(qm (qJ (i:=4) sc_Ltold.nd rfl (ap rfl) (qo ok_Ldraw hr (by decide) qL rfl (qc (vr 0) (qQ (i:=1) rfl (bC (ap rfl)) (by decide) (qc qt qf)))))
  (qm (qJ (i:=5) sc_Ltold.nd rfl (bC rfl) (qO (jv rfl) qt (qo ok_Ldraw hr (by decide) qL rfl (qc (vr 0) (qQ (i:=1) rfl (bC (ap rfl)) (by decide) (qc (vr 3) qf))))))
  (qm (qJ (i:=6) sc_Ltold.nd rfl (ap rfl) (qo ok_Llook hr (by decide) qL rfl (qc (vr 0) (qQ (i:=1) rfl (bC (ap rfl)) (by decide) qf))))
  (qm (qJ (i:=7) sc_Ltold.nd rfl (ap rfl) (qo ok_Lwords hr (by decide) qL rfl (qc (vr 0) (qQ (i:=1) rfl (bC (ap rfl)) (by decide) (qc (vr 2) qf)))))
  (qm (qJ (i:=8) sc_Ltold.nd rfl (ap rfl) (kC (qbo rfl rfl) rfl Z.z_dict qdp (jz (N:=["_law_letter", "_law_script", "_law_town", "_law_room"]) (nt:=1) (cap:=[0,1,5]) rfl (vp (names:=(qe xD).names) rfl (by decide +kernel)) (jN (names:=(qe xD).names) (N:=JO) rfl rfl (by decide +kernel)) (jm rfl (qo ok_Lletters hr (by decide) qL rfl (qc (vr 7) (qc (vr 6) qf)))) (fun fp L s1 H1=>(qB (i:=0) (show aS (["_law_letter", "_law_script", "_law_town", "_law_room"]:List Str) from by decide +kernel) rfl (ap rfl))) (fun fp L s1 H1=>ja) (fun fp L s1 H1=>(jB (qc (vr 0) (qc (qo ok_Ldraw hr (by decide) wy rfl (qc (vr 1) (qQ (i:=2) rfl (by first | exact bC (bC rfl) | exact bC (ap rfl)) (by decide) (qc (vr 3) qf)))) qf)))))))
  (qm (kM (i:=9) sc_Ltold.nd rfl (ap rfl) (kC (Wt rfl) rfl Z.z_list gE (qo ok_Lby hr (by decide) qL rfl (qc (vr 7) (qc (vr 6) (qc (vr 5) (qc (vr 8) qf)))))))
  (qm (vR bj rfl (jU rfl Z.z_range (qO KI (qO Ji (vr 4) qt) (qO (jv rfl) qt (qO vw (vr 4) qt)))) (qB (i:=10) sc_Ltold.nd rfl (ap rfl))
  (qp (Gk (n:=9) rfl (ap rfl) (by decide) (qo ok_Ldraw hr (by decide) qL rfl (qc (vr 0) (qQ (i:=1) rfl (bC (ap rfl)) (by decide) (qc (vr 5) qf)))) (qo ok_Ldraw hr (by decide) qL rfl (qc (vr 0) (qQ (i:=1) rfl (bC (ap rfl)) (by decide) (qc (qI (jD rfl) rfl Z.z_len jA (vb (i:=9) rfl (ap rfl) (by decide))) qf)))))))
  (qp (qr (jB (qc (vr 7) (qc (vr 6) (qc (vr 5) (qc (kC (Jo rfl) rfl Z.z_tuple kQ (vb (i:=9) rfl (ap rfl) (by decide))) qf))))))))))))))
abbrev vA:Stmt:=top 82
abbrev zj:List Str:=["_law_script", "_law_town", "_law_some"]
theorem sc_Lodd_words:FnScope zj ["_law_script", "_law_town"] (qe vA):=⟨rfl,rfl,rfl,by decide +kernel,rfl,by decide +kernel,by decide +kernel⟩
noncomputable def um:Sl->Out (Fl×Sl):=(qZ (ka 2 (wt fun ρ=>.ok ([.non,(.int 5),(.tup []),(.lst [(.str "ab")]),(.tup [(.str "ab"),(.str "ab")]),(.tup [(.str "")]),(.tup [(.str "abcdefg")]),(.tup [(.str "Ab")]),(.tup [(.str "a b")]),(.str "ab"),(.tup [(.int 1)]),(.tup [(.str "ab"),.non])],ρ)))
  (jI (qx [.vl,.sl 1,.vl] wC (qd (ql 0) (jQ (qd (d2 kI (ql 2) (wt (qd (d1 WD (dC (.str "abcdefg"))) (qd (ua (qd (dC (.str "ab")) (qd (dC (.str "a1")) qE))) (qd (dC (.tup [(.tup [(.str "a")])])) qE))))) qE))))))
noncomputable abbrev uo:List D->Out (D×List D):=jT zj [.val,.io] (um)
abbrev yU P w K mg base cv:=DefOk P w K mg base cv 5 "_law_odd_words" ["_law_script", "_law_town"] [.val,.io] .sh (uo)
theorem JP (Z:Zt K mg cv ca) (T:qU K mg "_law_odd_words" vA ["_law_script", "_law_town"]) (ok_Lpick:uN P w K mg base cv):yU P w K mg base cv:=
 qF (k:=4) (own':=[1]) (fb:=um) T sc_Lodd_words fun cdv f A outer s H E hr=>(qm (qJ (i:=2) sc_Lodd_words.nd rfl (ap rfl) (wA 21 rfl))
  (qp (qr (qo ok_Lpick hr (by decide) qL rfl (qc (vr 0) (qQ (i:=1) rfl (ap rfl) (by decide) (qc (qO (jv rfl) (vr 2) (jC (qc (kC (Gj rfl) rfl Z.z_tuple kQ kL) (qc (jB (qc kL (qc kL qf))) (qc (qb9 9 rfl) qf))))) qf)))))))
abbrev wE:Stmt:=top 83
abbrev gI:List Str:=["_law_script", "_law_town", "_law_some"]
theorem sc_Lodd_look:FnScope gI ["_law_script", "_law_town"] (qe wE):=⟨rfl,rfl,rfl,by decide +kernel,rfl,by decide +kernel,by decide +kernel⟩
noncomputable def yp:Sl->Out (Fl×Sl):=(qZ (ka 2 (wt fun ρ=>.ok ([.non,(.int 5),(.tup []),(.tup [(.int 0)]),(.tup [(.int 0),(.int 1),(.int 2)]),(.lst [(.int 0),(.int 1)]),(.tup [(.int 0),(.int 3)]),(.tup [(.int (-4)),(.int 0)]),(.tup [(.bl true),(.int 0)]),(.tup [(.int 0),(.bl false)]),(.tup [(.int 0),.non]),(.str "01"),(.tup [(.str "0"),(.int 1)])],ρ)))
  (jI (qx [.vl,.sl 1,.vl] wC (qd (ql 0) (jQ (qd (ql 2) qE))))))
noncomputable abbrev yq:List D->Out (D×List D):=jT gI [.val,.io] (yp)
abbrev zk P w K mg base cv:=DefOk P w K mg base cv 5 "_law_odd_look" ["_law_script", "_law_town"] [.val,.io] .sh (yq)
theorem Vw (Z:Zt K mg cv ca) (T:qU K mg "_law_odd_look" wE ["_law_script", "_law_town"]) (ok_Lpick:uN P w K mg base cv):zk P w K mg base cv:=
 qF (k:=4) (own':=[1]) (fb:=yp) T sc_Lodd_look fun cdv f A outer s H E hr=>(qm (qJ (i:=2) sc_Lodd_look.nd rfl (ap rfl) (wA 22 rfl))
  (qp (qr (qo ok_Lpick hr (by decide) qL rfl (qc (vr 0) (qQ (i:=1) rfl (ap rfl) (by decide) (qc (vr 2) qf)))))))
abbrev wF:Stmt:=top 22
abbrev gJ:List Str:=["thing"]
theorem Vx:FnScope gJ ["thing"] (qe wF):=⟨rfl,rfl,rfl,by decide +kernel,rfl,by decide +kernel,by decide +kernel⟩
noncomputable def vj:Sl->Out (Fl×Sl):=(jI (KJ (d1 (zH "str") (ql 0)) (KJ (d2 eqD (d1 kt (ql 0)) (dC (.int 1))) (yC leD leD (dC (.str "a")) (ql 0) (dC (.str "z"))))))
noncomputable abbrev vm:List D->Out (D×List D):=jT gJ [.val] (vj)
abbrev uq P w K mg base cv:=DefOk P w K mg base cv 1 "is_letter" ["thing"] [.val] .sh (vm)
theorem Vy (Z:Zt K mg cv ca) (T:qU K mg "is_letter" wF ["thing"]):uq P w K mg base cv:=
 qF (k:=0) (own':=[]) (fb:=vj) T Vx fun cdv f A outer s H E hr=>(qp (qr (KK (yK rfl rfl Z.z_isinstance qy rfl Z.z_str qca (vr 0)) (KK (yA (ya rfl hr.units) (qI (jD rfl) rfl Z.z_len jA (vr 0)) qt) (UB (UD KM KM kL (vr 0) kL))))))
abbrev wf:Stmt:=top 23
abbrev gK:List Str:=["thing"]
theorem Xh:FnScope gK ["thing"] (qe wf):=⟨rfl,rfl,rfl,by decide +kernel,rfl,by decide +kernel,by decide +kernel⟩
noncomputable def gL:Sl->Out (Fl×Sl):=(qZ (sIf (dOr (QD (xZ (d1 (zH "str") (ql 0)))) (QD (jl (yC leD leD (dC (.int 1)) (d1 kt (ql 0)) (dC (.int 6)))))) (jI (dC (.bl false))) jt)
  (jI (d1 qap (jw [] 1 [] (vx (ql 0)) (gNm 0) ftT (qx [.vl] vm (qd (ql 0) qE))))))
noncomputable abbrev yV:List D->Out (D×List D):=jT gK [.val] (gL)
abbrev QR P w K mg base cv:=DefOk P w K mg base cv 2 "is_word" ["thing"] [.val] .sh (yV)
theorem Xi (Z:Zt K mg cv ca) (T:qU K mg "is_word" wf ["thing"]) (ok_is_letter:uq P w K mg base cv):QR P w K mg base cv:=
 qF (k:=1) (own':=[]) (fb:=gL) T Xh fun cdv f A outer s H E hr=>(qm (ji (PW.pt (yc (jy (jp rfl (yK rfl rfl Z.z_isinstance qy rfl Z.z_str qca (vr 0)) (fun _=>rfl))) (kK (jy (KL KM KM qt (qI (jD rfl) rfl Z.z_len jA (vr 0)) (yJ Z.c_MOST_LETTERS rfl)))))) (qp (qr yB)) qM)
  (qp (qr (qI (Vb rfl rfl) rfl Z.z_all Vt (jz (N:=["sign"]) (nt:=1) (cap:=[]) rfl (vp (names:=(qe wf).names) rfl (by decide +kernel)) (jN (names:=(qe wf).names) (N:=gK) rfl rfl (by decide +kernel)) (jm rfl (vr 0)) (fun fp L s1 H1=>(qB (i:=0) (show aS (["sign"]:List Str) from by decide +kernel) rfl (ap rfl))) (fun fp L s1 H1=>ja) (fun fp L s1 H1=>(qo ok_is_letter hr (by decide) wy rfl (qc (vr 0) qf))))))))
abbrev va:Stmt:=top 24
abbrev xE:List Str:=["thing"]
theorem WU:FnScope xE ["thing"] (qe va):=⟨rfl,rfl,rfl,by decide +kernel,rfl,by decide +kernel,by decide +kernel⟩
noncomputable def xF:Sl->Out (Fl×Sl):=(qZ (sIf (dOr (QD (xZ (d1 (zH "tuple") (ql 0)))) (QD (jl (yC leD leD (dC (.int 1)) (d1 kt (ql 0)) (dC (.int 6)))))) (jI (dC (.bl false))) jt)
  (jI (KJ (d1 qap (jw [] 1 [] (vx (ql 0)) (gNm 0) ftT (qx [.vl] yV (qd (ql 0) qE)))) (d2 eqD (d1 Jt (ql 0)) (d1 kt (ql 0))))))
noncomputable abbrev xG:List D->Out (D×List D):=jT xE [.val] (xF)
abbrev gM P w K mg base cv:=DefOk P w K mg base cv 3 "is_words" ["thing"] [.val] .sh (xG)
theorem WV (Z:Zt K mg cv ca) (T:qU K mg "is_words" va ["thing"]) (ok_is_word:QR P w K mg base cv):gM P w K mg base cv:=
 qF (k:=2) (own':=[]) (fb:=xF) T WU fun cdv f A outer s H E hr=>(qm (ji (PW.pt (yc (jy (jp rfl (yK rfl rfl Z.z_isinstance qy rfl Z.z_tuple kQ (vr 0)) (fun _=>rfl))) (kK (jy (KL KM KM qt (qI (jD rfl) rfl Z.z_len jA (vr 0)) (yJ Z.c_MOST_WORDS rfl)))))) (qp (qr yB)) qM)
  (qp (qr (KK (qI (Vb rfl rfl) rfl Z.z_all Vt (jz (N:=["part"]) (nt:=1) (cap:=[]) rfl (vp (names:=(qe va).names) rfl (by decide +kernel)) (jN (names:=(qe va).names) (N:=xE) rfl rfl (by decide +kernel)) (jm rfl (vr 0)) (fun fp L s1 H1=>(qB (i:=0) (show aS (["part"]:List Str) from by decide +kernel) rfl (ap rfl))) (fun fp L s1 H1=>ja) (fun fp L s1 H1=>(qo ok_is_word hr (by decide) wy rfl (qc (vr 0) qf))))) (UB (yA (ya rfl hr.units) (ZS rfl rfl rfl Z.z_len jA rfl Z.z_set Ye (vr 0)) (qI (jD rfl) rfl Z.z_len jA (vr 0))))))))
abbrev kR:Stmt:=top 29
abbrev yW:List Str:=["thing"]
theorem Qu:FnScope yW ["thing"] (qe kR):=⟨rfl,rfl,rfl,by decide +kernel,rfl,by decide +kernel,by decide +kernel⟩
noncomputable def wG:Sl->Out (Fl×Sl):=(sIf (QD (xZ (qx [.vl] xG (qd (ql 0) qE)))) (ku "NoWords" (qd (dC (.str "words are a tuple of 1 to 6 unlike words of 1 to 6 letters from a to z")) qE)) jt)
noncomputable abbrev kS:List D->Out (D×List D):=jT yW [.val] (wG)
abbrev yd P w K mg base cv:=DefOk P w K mg base cv 4 "check_words" ["thing"] [.val] .sh (kS)
theorem Qv (Z:Zt K mg cv ca) (T:qU K mg "check_words" kR ["thing"]) (ok_is_words:gM P w K mg base cv):yd P w K mg base cv:=
 qF (k:=3) (own':=[]) (fb:=wG) T Qu fun cdv f A outer s H E hr=>(qp (ji (jy (jp rfl (qo ok_is_words hr (by decide) qL rfl (qc (vr 0) qf)) (fun _=>rfl))) (qp (vh rfl (gn rfl) rfl rfl (Z.mref "NoWords" (by decide +kernel)) (Z.xs.val "NoWords" (by decide +kernel)) (Z.xin "NoWords" (by decide +kernel)) (qc kL qf))) qM))
abbrev vB:Stmt:=top 21
abbrev zl:List Str:=["thing", "least", "most"]
theorem JQ:FnScope zl ["thing", "least", "most"] (qe vB):=⟨rfl,rfl,rfl,by decide +kernel,rfl,by decide +kernel,by decide +kernel⟩
noncomputable def vC:Sl->Out (Fl×Sl):=(qZ (sIf (dOr (QD (xZ (d1 (zH "int") (ql 0)))) (xZ (d1 (zH "bool") (ql 0)))) (jI (dC (.bl false))) jt)
  (jI (yC leD leD (ql 1) (ql 0) (ql 2))))
noncomputable abbrev jb:List D->Out (D×List D):=jT zl [.val,.val,.val] (vC)
abbrev jK P w K mg base cv:=DefOk P w K mg base cv 1 "is_between" ["thing", "least", "most"] [.val,.val,.val] .sh (jb)
theorem JR (Z:Zt K mg cv ca) (T:qU K mg "is_between" vB ["thing", "least", "most"]):jK P w K mg base cv:=
 qF (k:=0) (own':=[]) (fb:=vC) T JQ fun cdv f A outer s H E hr=>(qm (ji (PW.pt (yc (jy (jp rfl (yK rfl rfl Z.z_isinstance qy rfl Z.z_int qfa (vr 0)) (fun _=>rfl))) (kK (jp rfl (yK rfl rfl Z.z_isinstance qy rfl Z.z_bool qdo (vr 0)) (fun _=>rfl))))) (qp (qr yB)) qM)
  (qp (qr (UD KM KM (vr 1) (vr 0) (vr 2)))))
abbrev wg:Stmt:=top 25
abbrev gN:List Str:=["thing"]
theorem Xj:FnScope gN ["thing"] (qe wg):=⟨rfl,rfl,rfl,by decide +kernel,rfl,by decide +kernel,by decide +kernel⟩
noncomputable def gO:Sl->Out (Fl×Sl):=(qZ (sIf (dOr (QD (xZ (d1 (zH "tuple") (ql 0)))) (jl (d2 neD (d1 kt (ql 0)) (dC (.int 2))))) (jI (dC (.bl false))) jt)
  (jI (d1 qap (jw [] 1 [] (vx (ql 0)) (gNm 0) ftT (qx [.vl,.vl,.vl] jb (qd (ql 0) (qd (dC (.int (-3))) (qd (dC (.int 2)) qE))))))))
noncomputable abbrev gP:List D->Out (D×List D):=jT gN [.val] (gO)
abbrev QS P w K mg base cv:=DefOk P w K mg base cv 2 "is_look" ["thing"] [.val] .sh (gP)
theorem Xk (Z:Zt K mg cv ca) (T:qU K mg "is_look" wg ["thing"]) (ok_is_between:jK P w K mg base cv):QS P w K mg base cv:=
 qF (k:=1) (own':=[]) (fb:=gO) T Xj fun cdv f A outer s H E hr=>(qm (ji (PW.pt (yc (jy (jp rfl (yK rfl rfl Z.z_isinstance qy rfl Z.z_tuple kQ (vr 0)) (fun _=>rfl))) (kK (qP (ge rfl hr.units) (qI (jD rfl) rfl Z.z_len jA (vr 0)) qt)))) (qp (qr yB)) qM)
  (qp (qr (qI (Vb rfl rfl) rfl Z.z_all Vt (jz (N:=["place"]) (nt:=1) (cap:=[]) rfl (vp (names:=(qe wg).names) rfl (by decide +kernel)) (jN (names:=(qe wg).names) (N:=gN) rfl rfl (by decide +kernel)) (jm rfl (vr 0)) (fun fp L s1 H1=>(qB (i:=0) (show aS (["place"]:List Str) from by decide +kernel) rfl (ap rfl))) (fun fp L s1 H1=>ja) (fun fp L s1 H1=>(qo ok_is_between hr (by decide) wy rfl (qc (vr 0) (qc (yJ Z.c_LEAST_PLACE rfl) (qc (yJ Z.c_MOST_PLACE rfl) qf))))))))))
abbrev vD:Stmt:=top 30
abbrev zm:List Str:=["thing"]
theorem JS:FnScope zm ["thing"] (qe vD):=⟨rfl,rfl,rfl,by decide +kernel,rfl,by decide +kernel,by decide +kernel⟩
noncomputable def ur:Sl->Out (Fl×Sl):=(sIf (QD (xZ (qx [.vl] gP (qd (ql 0) qE)))) (ku "NoLook" (qd (dC (.str "a look is a tuple of two places from -3 to 2")) qE)) jt)
noncomputable abbrev vE:List D->Out (D×List D):=jT zm [.val] (ur)
abbrev yX P w K mg base cv:=DefOk P w K mg base cv 3 "check_look" ["thing"] [.val] .sh (vE)
theorem JT (Z:Zt K mg cv ca) (T:qU K mg "check_look" vD ["thing"]) (ok_is_look:QS P w K mg base cv):yX P w K mg base cv:=
 qF (k:=2) (own':=[]) (fb:=ur) T JS fun cdv f A outer s H E hr=>(qp (ji (jy (jp rfl (qo ok_is_look hr (by decide) qL rfl (qc (vr 0) qf)) (fun _=>rfl))) (qp (vh rfl (gn rfl) rfl rfl (Z.mref "NoLook" (by decide +kernel)) (Z.xs.val "NoLook" (by decide +kernel)) (Z.xin "NoLook" (by decide +kernel)) (qc kL qf))) qM))
abbrev wH:Stmt:=top 35
abbrev gQ:List Str:=["word", "place", "at"]
theorem sc_letter_at:FnScope gQ ["word", "place"] (qe wH):=⟨rfl,rfl,rfl,by decide +kernel,rfl,by decide +kernel,by decide +kernel⟩
noncomputable def wI:Sl->Out (Fl×Sl):=(qZ (ka 2 (dIf (jl (d2 geD (ql 1) (dC (.int 0)))) (ql 1) (d2 kI (d1 kt (ql 0)) (ql 1))))
  (jI (d2 ixD (ql 0) (d2 qfU (dC (.int 0)) (d2 qfV (ql 2) (d2 gc (d1 kt (ql 0)) (dC (.int 1))))))))
noncomputable abbrev vn:List D->Out (D×List D):=jT gQ [.val,.val] (wI)
abbrev zn P w K mg base cv:=DefOk P w K mg base cv 1 "letter_at" ["word", "place"] [.val,.val] .sh (vn)
theorem Vz (Z:Zt K mg cv ca) (T:qU K mg "letter_at" wH ["word", "place"]):zn P w K mg base cv:=
 qF (k:=0) (own':=[]) (fb:=wI) T sc_letter_at fun cdv f A outer s H E hr=>(qm (qJ (i:=2) sc_letter_at.nd rfl (ap rfl) (Zi (qP qeD (vr 1) qt) (vr 1) (qO (jv rfl) (qI (jD rfl) rfl Z.z_len jA (vr 0)) (vr 1))))
  (qp (qr (ju rfl hr.units (vr 0) (Va (qeQ rfl) rfl Z.z_max qfb qt (Va (qeR rfl) rfl Z.z_min qfc (vr 2) (qO xY (qI (jD rfl) rfl Z.z_len jA (vr 0)) qt))) (fun _ _=>rfl)))))
abbrev xH:Stmt:=top 36
abbrev WW:List Str:=["words", "look"]
theorem qbC:FnScope WW ["words", "look"] (qe xH):=⟨rfl,rfl,rfl,by decide +kernel,rfl,by decide +kernel,by decide +kernel⟩
noncomputable def gR:Sl->Out (Fl×Sl):=(qZ (vd (qx [.vl] kS (qd (ql 0) qE)))
  (qZ (vd (qx [.vl] vE (qd (ql 1) qE)))
  (jI (jw [] 1 [1] (vx (ql 0)) (gNm 0) ftT (ua (qd (qx [.vl,.vl] vn (qd (ql 0) (qd (d2 ixD (ql 1) (dC (.int 0))) qE))) (qd (qx [.vl,.vl] vn (qd (ql 0) (qd (d2 ixD (ql 1) (dC (.int 1))) qE))) qE)))))))
noncomputable abbrev vS:List D->Out (D×List D):=jT WW [.val,.val] (gR)
abbrev yY P w K mg base cv:=DefOk P w K mg base cv 5 "pairs" ["words", "look"] [.val,.val] .sh (vS)
theorem qbD (Z:Zt K mg cv ca) (T:qU K mg "pairs" xH ["words", "look"]) (ok_check_words:yd P w K mg base cv) (ok_check_look:yX P w K mg base cv) (ok_letter_at:zn P w K mg base cv):yY P w K mg base cv:=
 qF (k:=4) (own':=[]) (fb:=gR) T qbC fun cdv f A outer s H E hr=>(qm (jq (qo ok_check_words hr (by decide) qL rfl (qc (vr 0) qf)))
  (qm (jq (qo ok_check_look hr (by decide) qL rfl (qc (vr 1) qf)))
  (qp (qr (jz (N:=["word", "look"]) (nt:=1) (cap:=[1]) rfl (vp (names:=(qe xH).names) rfl (by decide +kernel)) (jN (names:=(qe xH).names) (N:=WW) rfl rfl (by decide +kernel)) (jm rfl (vr 0)) (fun fp L s1 H1=>(qB (i:=0) (show aS (["word", "look"]:List Str) from by decide +kernel) rfl (ap rfl))) (fun fp L s1 H1=>ja) (fun fp L s1 H1=>(jB (qc (qo ok_letter_at hr (by decide) wy rfl (qc (vr 0) (qc (ju rfl hr.units (vr 1) qt (fun _ _=>rfl)) qf))) (qc (qo ok_letter_at hr (by decide) wy rfl (qc (vr 0) (qc (ju rfl hr.units (vr 1) qt (fun _ _=>rfl)) qf))) qf)))))))))
abbrev vF:Stmt:=top 31
abbrev zo:List Str:=["thing"]
theorem JU:FnScope zo ["thing"] (qe vF):=⟨rfl,rfl,rfl,by decide +kernel,rfl,by decide +kernel,by decide +kernel⟩
noncomputable def ut:Sl->Out (Fl×Sl):=(sIf (QD (xZ (qx [.vl,.vl,.vl] jb (qd (ql 0) (qd (dC (.int 1)) (qd (dC (.int 99)) qE)))))) (ku "NoRoom" (qd (dC (.str "a room is a whole number from 1 to 99")) qE)) jt)
noncomputable abbrev vG:List D->Out (D×List D):=jT zo [.val] (ut)
abbrev wJ P w K mg base cv:=DefOk P w K mg base cv 2 "check_room" ["thing"] [.val] .sh (vG)
theorem JV (Z:Zt K mg cv ca) (T:qU K mg "check_room" vF ["thing"]) (ok_is_between:jK P w K mg base cv):wJ P w K mg base cv:=
 qF (k:=1) (own':=[]) (fb:=ut) T JU fun cdv f A outer s H E hr=>(qp (ji (jy (jp rfl (qo ok_is_between hr (by decide) qL rfl (qc (vr 0) (qc qt (qc (yJ Z.c_MOST_ROOM rfl) qf)))) (fun _=>rfl))) (qp (vh rfl (gn rfl) rfl rfl (Z.mref "NoRoom" (by decide +kernel)) (Z.xs.val "NoRoom" (by decide +kernel)) (Z.xin "NoRoom" (by decide +kernel)) (qc kL qf))) qM))
abbrev jW:Stmt:=top 28
abbrev uu:List Str:=["thing", "count", "room"]
theorem JW:FnScope uu ["thing", "count", "room"] (qe jW):=⟨rfl,rfl,rfl,by decide +kernel,rfl,by decide +kernel,by decide +kernel⟩
noncomputable def jX:Sl->Out (Fl×Sl):=(qZ (sIf (dOr (QD (xZ (d1 (zH "tuple") (ql 0)))) (jl (d2 neD (d1 kt (ql 0)) (ql 1)))) (jI (dC (.bl false))) jt)
  (jI (d1 qap (jw [] 1 [2] (vx (ql 0)) (gNm 0) ftT (qx [.vl,.vl,.vl] jb (qd (ql 0) (qd (dC (.int 0)) (qd (d2 gc (ql 1) (dC (.int 1))) qE))))))))
noncomputable abbrev jn:List D->Out (D×List D):=jT uu [.val,.val,.val] (jX)
abbrev yZ P w K mg base cv:=DefOk P w K mg base cv 2 "is_numbers" ["thing", "count", "room"] [.val,.val,.val] .sh (jn)
theorem JX (Z:Zt K mg cv ca) (T:qU K mg "is_numbers" jW ["thing", "count", "room"]) (ok_is_between:jK P w K mg base cv):yZ P w K mg base cv:=
 qF (k:=1) (own':=[]) (fb:=jX) T JW fun cdv f A outer s H E hr=>(qm (ji (PW.pt (yc (jy (jp rfl (yK rfl rfl Z.z_isinstance qy rfl Z.z_tuple kQ (vr 0)) (fun _=>rfl))) (kK (qP (ge rfl hr.units) (qI (jD rfl) rfl Z.z_len jA (vr 0)) (vr 1))))) (qp (qr yB)) qM)
  (qp (qr (qI (Vb rfl rfl) rfl Z.z_all Vt (jz (N:=["number", "room"]) (nt:=1) (cap:=[2]) rfl (vp (names:=(qe jW).names) rfl (by decide +kernel)) (jN (names:=(qe jW).names) (N:=uu) rfl rfl (by decide +kernel)) (jm rfl (vr 0)) (fun fp L s1 H1=>(qB (i:=0) (show aS (["number", "room"]:List Str) from by decide +kernel) rfl (ap rfl))) (fun fp L s1 H1=>ja) (fun fp L s1 H1=>(qo ok_is_between hr (by decide) wy rfl (qc (vr 0) (qc qt (qc (qO xY (vr 1) qt) qf))))))))))
abbrev kh:Stmt:=top 33
abbrev uw:List Str:=["thing", "count", "room"]
theorem zy:FnScope uw ["thing", "count", "room"] (qe kh):=⟨rfl,rfl,rfl,by decide +kernel,rfl,by decide +kernel,by decide +kernel⟩
noncomputable def ki:Sl->Out (Fl×Sl):=(sIf (QD (xZ (qx [.vl,.vl,.vl] jn (qd (ql 0) (qd (ql 1) (qd (ql 2) qE)))))) (ku "NoNumbers" (qd (dC (.str "numbers are a tuple of a number within the room for each word")) qE)) jt)
noncomputable abbrev kj:List D->Out (D×List D):=jT uw [.val,.val,.val] (ki)
abbrev wV P w K mg base cv:=DefOk P w K mg base cv 3 "check_numbers" ["thing", "count", "room"] [.val,.val,.val] .sh (kj)
theorem zz (Z:Zt K mg cv ca) (T:qU K mg "check_numbers" kh ["thing", "count", "room"]) (ok_is_numbers:yZ P w K mg base cv):wV P w K mg base cv:=
 qF (k:=2) (own':=[]) (fb:=ki) T zy fun cdv f A outer s H E hr=>(qp (ji (jy (jp rfl (qo ok_is_numbers hr (by decide) qL rfl (qc (vr 0) (qc (vr 1) (qc (vr 2) qf)))) (fun _=>rfl))) (qp (vh rfl (gn rfl) rfl rfl (Z.mref "NoNumbers" (by decide +kernel)) (Z.xs.val "NoNumbers" (by decide +kernel)) (Z.xin "NoNumbers" (by decide +kernel)) (qc kL qf))) qM))
abbrev vH:Stmt:=top 41
abbrev zp:List Str:=["words", "look", "room", "numbers", "seen"]
theorem sc_told_pairs:FnScope zp ["words", "look", "room", "numbers"] (qe vH):=⟨rfl,rfl,rfl,by decide +kernel,rfl,by decide +kernel,by decide +kernel⟩
noncomputable def jF:Sl->Out (Fl×Sl):=(qZ (ka 4 (qx [.vl,.vl] vS (qd (ql 0) (qd (ql 1) qE))))
  (qZ (vd (qx [.vl] vG (qd (ql 2) qE)))
  (qZ (vd (qx [.vl,.vl,.vl] kj (qd (ql 3) (qd (d1 kt (ql 0)) (qd (ql 2) qE)))))
  (jI (ql 4)))))
noncomputable abbrev qW:List D->Out (D×List D):=jT zp [.val,.val,.val,.val] (jF)
abbrev kl P w K mg base cv:=DefOk P w K mg base cv 6 "told_pairs" ["words", "look", "room", "numbers"] [.val,.val,.val,.val] .sh (qW)
theorem JY (Z:Zt K mg cv ca) (T:qU K mg "told_pairs" vH ["words", "look", "room", "numbers"]) (ok_check_room:wJ P w K mg base cv) (ok_check_numbers:wV P w K mg base cv) (ok_pairs:yY P w K mg base cv):kl P w K mg base cv:=
 qF (k:=5) (own':=[]) (fb:=jF) T sc_told_pairs fun cdv f A outer s H E hr=>(qm (qJ (i:=4) sc_told_pairs.nd rfl (ap rfl) (qo ok_pairs hr (by decide) qL rfl (qc (vr 0) (qc (vr 1) qf))))
  (qm (jq (qo ok_check_room hr (by decide) qL rfl (qc (vr 2) qf)))
  (qm (jq (qo ok_check_numbers hr (by decide) qL rfl (qc (vr 3) (qc (qI (jD rfl) rfl Z.z_len jA (vr 0)) (qc (vr 2) qf)))))
  (qp (qr (vr 4))))))
abbrev zM:Stmt:=top 44
abbrev Yl:List Str:=["walk"]
theorem Gy:FnScope Yl ["walk"] (qe zM):=⟨rfl,rfl,rfl,by decide +kernel,rfl,by decide +kernel,by decide +kernel⟩
noncomputable def zN:Sl->Out (Fl×Sl):=(jI (d2 eqD (d2 xo (d1 kt (ql 0)) (dC (.int 2))) (dC (.int 1))))
noncomputable abbrev wK:List D->Out (D×List D):=jT Yl [.val] (zN)
abbrev xa P w K mg base cv:=DefOk P w K mg base cv 1 "is_odd" ["walk"] [.val] .sh (wK)
theorem Gz (Z:Zt K mg cv ca) (T:qU K mg "is_odd" zM ["walk"]):xa P w K mg base cv:=
 qF (k:=0) (own':=[]) (fb:=zN) T Gy fun cdv f A outer s H E hr=>(qp (qr (yA (ya rfl hr.units) (qO vw (qI (jD rfl) rfl Z.z_len jA (vr 0)) qt) qt)))
abbrev uQ:Stmt:=top 43
abbrev xI:List Str:=["walk", "numbers", "start", "total", "at"]
theorem sc_comes_to:FnScope xI ["walk", "numbers", "start"] (qe uQ):=⟨rfl,rfl,rfl,by decide +kernel,rfl,by decide +kernel,by decide +kernel⟩
noncomputable def xJ:Sl->Out (Fl×Sl):=(qZ (ka 3 (ql 2))
  (qZ (Wp (vx (ql 0)) (gNm 4)
  (ka 3 (d2 gc (d2 ixD (ql 1) (ql 4)) (ql 3))))
  (jI (ql 3))))
noncomputable abbrev uR:List D->Out (D×List D):=jT xI [.val,.val,.val] (xJ)
abbrev yr P w K mg base cv:=DefOk P w K mg base cv 1 "comes_to" ["walk", "numbers", "start"] [.val,.val,.val] .sh (uR)
theorem WX (Z:Zt K mg cv ca) (T:qU K mg "comes_to" uQ ["walk", "numbers", "start"]):yr P w K mg base cv:=
 qF (k:=0) (own':=[]) (fb:=xJ) T sc_comes_to fun cdv f A outer s H E hr=>(qm (qJ (i:=3) sc_comes_to.nd rfl (ap rfl) (vr 2))
  (qm (vR bj rfl (jm rfl (vr 0)) (qB (i:=4) sc_comes_to.nd rfl (ap rfl))
  (qp (qJ (i:=3) sc_comes_to.nd rfl (ap rfl) (qO xY (ju rfl hr.units (vr 1) (vr 4) (fun _ _=>rfl)) (vr 3)))))
  (qp (qr (vr 3)))))
abbrev Ym:Stmt:=top 45
abbrev qcd:List Str:=["walk", "room", "numbers", "total"]
theorem sc_bars:FnScope qcd ["walk", "room", "numbers"] (qe Ym):=⟨rfl,rfl,rfl,by decide +kernel,rfl,by decide +kernel,by decide +kernel⟩
noncomputable def Yn:Sl->Out (Fl×Sl):=(qZ (ka 3 (qx [.vl,.vl,.vl] uR (qd (ql 0) (qd (ql 2) (qd (dC (.int 0)) qE)))))
  (qZ (sIf (xZ (qx [.vl] wK (qd (ql 0) qE))) (jI (KJ (d2 eqD (d2 xo (ql 1) (dC (.int 2))) (dC (.int 0))) (d2 eqD (d2 xo (ql 3) (dC (.int 2))) (dC (.int 1))))) jt)
  (jI (d2 neD (d2 xo (ql 3) (ql 1)) (dC (.int 0))))))
noncomputable abbrev Yo:List D->Out (D×List D):=jT qcd [.val,.val,.val] (Yn)
abbrev GA P w K mg base cv:=DefOk P w K mg base cv 2 "bars" ["walk", "room", "numbers"] [.val,.val,.val] .sh (Yo)
theorem qdt (Z:Zt K mg cv ca) (T:qU K mg "bars" Ym ["walk", "room", "numbers"]) (ok_comes_to:yr P w K mg base cv) (ok_is_odd:xa P w K mg base cv):GA P w K mg base cv:=
 qF (k:=1) (own':=[]) (fb:=Yn) T sc_bars fun cdv f A outer s H E hr=>(qm (qJ (i:=3) sc_bars.nd rfl (ap rfl) (qo ok_comes_to hr (by decide) qL rfl (qc (vr 0) (qc (vr 2) (qc qt qf)))))
  (qm (ji (jp rfl (qo ok_is_odd hr (by decide) qL rfl (qc (vr 0) qf)) (fun _=>rfl)) (qp (qr (KK (yA (ya rfl hr.units) (qO vw (vr 1) qt) qt) (UB (yA (ya rfl hr.units) (qO vw (vr 3) qt) qt))))) qM)
  (qp (qr (yA (ge rfl hr.units) (qO vw (vr 3) (vr 1)) qt)))))
abbrev js:Stmt:=top 37
abbrev vI:List Str:=["seen"]
theorem JZ:FnScope vI ["seen"] (qe js):=⟨rfl,rfl,rfl,by decide +kernel,rfl,by decide +kernel,by decide +kernel⟩
noncomputable def ux:Sl->Out (Fl×Sl):=(jI (d1 wz (d2 kI (jw [] 1 [] (vx (ql 0)) (gNm 0) ftT (d2 ixD (ql 0) (dC (.int 0)))) (jw [] 1 [] (vx (ql 0)) (gNm 0) ftT (d2 ixD (ql 0) (dC (.int 1)))))))
noncomputable abbrev kE:List D->Out (D×List D):=jT vI [.val] (ux)
abbrev wL P w K mg base cv:=DefOk P w K mg base cv 1 "letters_of" ["seen"] [.val] .sh (kE)
theorem Ka (Z:Zt K mg cv ca) (T:qU K mg "letters_of" js ["seen"]):wL P w K mg base cv:=
 qF (k:=0) (own':=[]) (fb:=ux) T JZ fun cdv f A outer s H E hr=>(qp (qr (xx rfl rfl rfl Z.z_sorted yT rfl Z.z_set Ye (qO (jv rfl) (jz (N:=["pair"]) (nt:=1) (cap:=[]) rfl (vp (names:=(qe js).names) rfl (by decide +kernel)) (jN (names:=(qe js).names) (N:=vI) rfl rfl (by decide +kernel)) (jm rfl (vr 0)) (fun fp L s1 H1=>(qB (i:=0) (show aS (["pair"]:List Str) from by decide +kernel) rfl (ap rfl))) (fun fp L s1 H1=>ja) (fun fp L s1 H1=>(ju rfl hr.units (vr 0) qt (fun _ _=>rfl)))) (jz (N:=["pair"]) (nt:=1) (cap:=[]) rfl (vp (names:=(qe js).names) rfl (by decide +kernel)) (jN (names:=(qe js).names) (N:=vI) rfl rfl (by decide +kernel)) (jm rfl (vr 0)) (fun fp L s1 H1=>(qB (i:=0) (show aS (["pair"]:List Str) from by decide +kernel) rfl (ap rfl))) (fun fp L s1 H1=>ja) (fun fp L s1 H1=>(ju rfl hr.units (vr 0) qt (fun _ _=>rfl))))))))
abbrev kz:Stmt:=top 42
abbrev ye:List Str:=["pair", "letter"]
theorem gS:FnScope ye ["pair", "letter"] (qe kz):=⟨rfl,rfl,rfl,by decide +kernel,rfl,by decide +kernel,by decide +kernel⟩
noncomputable def vU:Sl->Out (Fl×Sl):=(jI (dIf (jl (d2 eqD (ql 1) (d2 ixD (ql 0) (dC (.int 0))))) (d2 ixD (ql 0) (dC (.int 1))) (d2 ixD (ql 0) (dC (.int 0)))))
noncomputable abbrev kA:List D->Out (D×List D):=jT ye [.val,.val] (vU)
abbrev uy P w K mg base cv:=DefOk P w K mg base cv 1 "other_letter" ["pair", "letter"] [.val,.val] .sh (kA)
theorem gT (Z:Zt K mg cv ca) (T:qU K mg "other_letter" kz ["pair", "letter"]):uy P w K mg base cv:=
 qF (k:=0) (own':=[]) (fb:=vU) T gS fun cdv f A outer s H E hr=>(qp (qr (Zi (qP (ya rfl hr.units) (vr 1) (ju rfl hr.units (vr 0) qt (fun _ _=>rfl))) (ju rfl hr.units (vr 0) qt (fun _ _=>rfl)) (ju rfl hr.units (vr 0) qt (fun _ _=>rfl)))))
abbrev zO:Stmt:=top 46
abbrev Kb:List Str:=["seen", "root", "ways", "waiting", "letter", "at", "pair", "reached"]
theorem sc_spread:FnScope Kb ["seen", "root", "ways"] (qe zO):=⟨rfl,rfl,rfl,by decide +kernel,rfl,by decide +kernel,by decide +kernel⟩
noncomputable def Kc:Sl->Out (Fl×Sl):=(qZ (JA 2 (ua (qd (ql 1) (qd (wt qE) qE))) (ql 1))
  (qZ (ka 3 (wt (qd (ql 1) qE)))
  (kq (jl (d2 gtD (d1 kt (ql 3)) (dC (.int 0))))
  (qZ (ka 4 (Gm 3))
  (Wp (YY (ql 0)) (ko 2 (qG (gNm 5) (qG (gNm 6) kn)))
  (qZ (ka 7 (qx [.vl,.vl] kA (qd (ql 6) (qd (ql 4) qE))))
  (sIf (qcQ (jl (d2 inA (ql 4) (ql 6))) (jl (d2 Jq (ql 7) (ql 2)))) (qZ (JA 2 (ua (qd (ql 1) (qd (d2 kI (d2 ixD (d2O 2 ixD (ql 4)) (dC (.int 1))) (wt (qd (ql 5) qE))) qE))) (ql 7))
  (vd (Kp 3 Qq (ql 7)))) jt)))) 20)))
noncomputable abbrev zQ:List D->Out (D×List D):=jT Kb [.val,.val,.io] (Kc)
abbrev VA P w K mg base cv:=DefOk P w K mg base cv 2 "spread" ["seen", "root", "ways"] [.val,.val,.io] .sh (zQ)
theorem GB (Z:Zt K mg cv ca) (T:qU K mg "spread" zO ["seen", "root", "ways"]) (ok_other_letter:uy P w K mg base cv):VA P w K mg base cv:=
 qF (k:=1) (own':=[3,2]) (fb:=Kc) T sc_spread fun cdv f A outer s H E hr=>(qm (JB (n:=2) hr.units rfl (ap rfl) (by decide) (jB (qc (vr 1) (qc (jC qf) qf))) (vr 1))
  (qm (kM (i:=3) sc_spread.nd rfl (ap rfl) (jC (qc (vr 1) qf)))
  (qp (Zr 20 bj (qP qgA (qI (jD rfl) rfl Z.z_len jA (vb (i:=3) rfl (ap rfl) (by decide))) qt)
  (qm (qJ (i:=4) sc_spread.nd rfl (ap rfl) (qdm (i:=3) rfl (ap rfl) (by decide)))
  (qp (vR bj rfl (UZ rfl rfl Z.z_enumerate (vr 0)) (wx rfl rfl (qN (qB (i:=5) sc_spread.nd rfl (ap rfl)) (qN (qB (i:=6) sc_spread.nd rfl (ap rfl)) kN)))
  (qm (qJ (i:=7) sc_spread.nd rfl (ap rfl) (qo ok_other_letter hr (by decide) qL rfl (qc (vr 6) (qc (vr 4) qf))))
  (qp (ji (PW.pt (Zh (qP (qeW rfl hr.units) (vr 4) (vr 6)) (kK (qP (yP rfl hr.units) (vr 7) (vb (i:=2) rfl (ap rfl) (by decide)))))) (qm (JB (n:=2) hr.units rfl (ap rfl) (by decide) (jB (qc (vr 1) (qc (qO (jv rfl) (ju rfl hr.units (qe9 (i:=2) rfl hr.units rfl (ap rfl) (by decide) (vr 4) (fun _ _=>rfl)) qt (fun _ _=>rfl)) (jC (qc (vr 5) qf))) qf))) (vr 7))
  (qp (jq (ui (i:=3) rfl rfl (ap rfl) (by decide) (vr 7))))) qM))))))))))
abbrev xb:Stmt:=top 47
abbrev gU:List Str:=["seen", "ways", "letter"]
theorem sc_ways_of:FnScope gU ["seen"] (qe xb):=⟨rfl,rfl,rfl,by decide +kernel,rfl,by decide +kernel,by decide +kernel⟩
noncomputable def gW:Sl->Out (Fl×Sl):=(qZ (ka 1 (dC (.dct [])))
  (qZ (Wp (vx (qx [.vl] kE (qd (ql 0) qE))) (gNm 2)
  (sIf (jl (d2 Jq (ql 2) (ql 1))) (vd (qx [.vl,.vl,.sl 1] zQ (qd (ql 0) (qd (ql 2) (jQ qE))))) jt))
  (jI (ql 1))))
noncomputable abbrev uz:List D->Out (D×List D):=jT gU [.val] (gW)
abbrev xK P w K mg base cv:=DefOk P w K mg base cv 3 "ways_of" ["seen"] [.val] .sh (uz)
theorem Xl (Z:Zt K mg cv ca) (T:qU K mg "ways_of" xb ["seen"]) (ok_letters_of:wL P w K mg base cv) (ok_spread:VA P w K mg base cv):xK P w K mg base cv:=
 qF (k:=2) (own':=[]) (fb:=gW) T sc_ways_of fun cdv f A outer s H E hr=>(qm (kM (i:=1) sc_ways_of.nd rfl (ap rfl) UE)
  (qm (vR bj rfl (jm rfl (qo ok_letters_of hr (by decide) qL rfl (qc (vr 0) qf))) (qB (i:=2) sc_ways_of.nd rfl (ap rfl))
  (qp (ji (qP (yP rfl hr.units) (vr 2) (vb (i:=1) rfl (ap rfl) (by decide))) (qp (jq (qo ok_spread hr (by decide) qL rfl (qc (vr 0) (qc (vr 2) (qQ (i:=1) rfl (ap rfl) (by decide) qf)))))) qM)))
  (wq [1] (qp (qr (vr 1))))))
abbrev vJ:Stmt:=top 48
abbrev uA:List Str:=["seen", "ways", "found", "at", "pair", "back"]
theorem sc_circles_of:FnScope uA ["seen", "ways"] (qe vJ):=⟨rfl,rfl,rfl,by decide +kernel,rfl,by decide +kernel,by decide +kernel⟩
noncomputable def uB:Sl->Out (Fl×Sl):=(qZ (ka 2 (wt qE))
  (qZ (Wp (YY (ql 0)) (ko 2 (qG (gNm 3) (qG (gNm 4) kn)))
  (qZ (ka 5 (d1 yS (d2 ixD (d2 ixD (ql 1) (d2 ixD (ql 4) (dC (.int 1)))) (dC (.int 1)))))
  (vd (Kp 2 Qq (ua (qd (d2 ixD (d2 ixD (ql 1) (d2 ixD (ql 4) (dC (.int 0)))) (dC (.int 0))) (qd (d2 kI (d2 kI (d2 ixD (d2 ixD (ql 1) (d2 ixD (ql 4) (dC (.int 0)))) (dC (.int 1))) (wt (qd (ql 3) qE))) (ql 5)) qE)))))))
  (jI (ql 2))))
noncomputable abbrev vK:List D->Out (D×List D):=jT uA [.val,.val] (uB)
abbrev wM P w K mg base cv:=DefOk P w K mg base cv 1 "circles_of" ["seen", "ways"] [.val,.val] .sh (vK)
theorem Ke (Z:Zt K mg cv ca) (T:qU K mg "circles_of" vJ ["seen", "ways"]):wM P w K mg base cv:=
 qF (k:=0) (own':=[]) (fb:=uB) T sc_circles_of fun cdv f A outer s H E hr=>(qm (kM (i:=2) sc_circles_of.nd rfl (ap rfl) (jC qf))
  (qm (vR bj rfl (UZ rfl rfl Z.z_enumerate (vr 0)) (wx rfl rfl (qN (qB (i:=3) sc_circles_of.nd rfl (ap rfl)) (qN (qB (i:=4) sc_circles_of.nd rfl (ap rfl)) kN)))
  (qm (qJ (i:=5) sc_circles_of.nd rfl (ap rfl) (Xc rfl rfl rfl Z.z_list gE rfl Z.z_reversed WF (ju rfl hr.units (ju rfl hr.units (vr 1) (ju rfl hr.units (vr 4) qt (fun _ _=>rfl)) (fun _ _=>rfl)) qt (fun _ _=>rfl))))
  (qp (jq (ui (i:=2) rfl rfl (ap rfl) (by decide) (jB (qc (ju rfl hr.units (ju rfl hr.units (vr 1) (ju rfl hr.units (vr 4) qt (fun _ _=>rfl)) (fun _ _=>rfl)) qt (fun _ _=>rfl)) (qc (qO (jv rfl) (qO (jv rfl) (ju rfl hr.units (ju rfl hr.units (vr 1) (ju rfl hr.units (vr 4) qt (fun _ _=>rfl)) (fun _ _=>rfl)) qt (fun _ _=>rfl)) (jC (qc (vr 3) qf))) (vr 5)) qf))))))))
  (wq [2] (qp (qr (vr 2))))))
abbrev wN:Stmt:=top 49
abbrev yt:List Str:=["circles", "first", "root", "walk"]
theorem sc_first_odd:FnScope yt ["circles"] (qe wN):=⟨rfl,rfl,rfl,by decide +kernel,rfl,by decide +kernel,by decide +kernel⟩
noncomputable def yu:Sl->Out (Fl×Sl):=(qZ (ka 1 (dC (.dct [])))
  (qZ (Wp (vx (ql 0)) (ko 2 (qG (gNm 2) (qG (gNm 3) kn)))
  (sIf (qcQ (xZ (qx [.vl] wK (qd (ql 3) qE))) (jl (d2 Jq (ql 2) (ql 1)))) (JA 1 (ql 3) (ql 2)) jt))
  (jI (ql 1))))
noncomputable abbrev wO:List D->Out (D×List D):=jT yt [.val] (yu)
abbrev uC P w K mg base cv:=DefOk P w K mg base cv 2 "first_odd" ["circles"] [.val] .sh (wO)
theorem VB (Z:Zt K mg cv ca) (T:qU K mg "first_odd" wN ["circles"]) (ok_is_odd:xa P w K mg base cv):uC P w K mg base cv:=
 qF (k:=1) (own':=[]) (fb:=yu) T sc_first_odd fun cdv f A outer s H E hr=>(qm (kM (i:=1) sc_first_odd.nd rfl (ap rfl) UE)
  (qm (vR bj rfl (jm rfl (vr 0)) (wx rfl rfl (qN (qB (i:=2) sc_first_odd.nd rfl (ap rfl)) (qN (qB (i:=3) sc_first_odd.nd rfl (ap rfl)) kN)))
  (qp (ji (PW.pt (Zh (jp rfl (qo ok_is_odd hr (by decide) qL rfl (qc (vr 3) qf)) (fun _=>rfl)) (kK (qP (yP rfl hr.units) (vr 2) (vb (i:=1) rfl (ap rfl) (by decide)))))) (qp (JB (n:=1) hr.units rfl (ap rfl) (by decide) (vr 3) (vr 2))) qM)))
  (wq [1] (qp (qr (vr 1))))))
abbrev uS:Stmt:=top 50
abbrev zR:List Str:=["seen", "room", "numbers", "circles", "first", "joined", "root", "walk"]
theorem sc_bar_of:FnScope zR ["seen", "room", "numbers"] (qe uS):=⟨rfl,rfl,rfl,by decide +kernel,rfl,by decide +kernel,by decide +kernel⟩
noncomputable def Kf:Sl->Out (Fl×Sl):=(qZ (ka 3 (qx [.vl,.vl] vK (qd (ql 0) (qd (qx [.vl] uz (qd (ql 0) qE)) qE))))
  (qZ (ka 4 (qx [.vl] wO (qd (ql 3) qE)))
  (qZ (ka 5 (jw [] 2 [4] (vx (ql 3)) (ko 2 (qG (gNm 0) (qG (gNm 1) kn))) (xZ (qx [.vl] wK (qd (ql 1) qE))) (ua (qd (ql 0) (qd (d2 kI (d2 ixD (ql 2) (ql 0)) (ql 1)) qE)))))
  (qZ (Wp (vx (d2 kI (ql 3) (ql 5))) (ko 2 (qG (gNm 6) (qG (gNm 7) kn)))
  (sIf (xZ (qx [.vl,.vl,.vl] Yo (qd (ql 7) (qd (ql 1) (qd (ql 2) qE))))) (jI (ua (qd (ql 6) (qd (ql 7) qE)))) jt))
  (jI (dC .non))))))
noncomputable abbrev Kg:List D->Out (D×List D):=jT zR [.val,.val,.val] (Kf)
abbrev VC P w K mg base cv:=DefOk P w K mg base cv 4 "bar_of" ["seen", "room", "numbers"] [.val,.val,.val] .sh (Kg)
theorem GC (Z:Zt K mg cv ca) (T:qU K mg "bar_of" uS ["seen", "room", "numbers"]) (ok_is_odd:xa P w K mg base cv) (ok_bars:GA P w K mg base cv) (ok_ways_of:xK P w K mg base cv) (ok_circles_of:wM P w K mg base cv) (ok_first_odd:uC P w K mg base cv):VC P w K mg base cv:=
 qF (k:=3) (own':=[]) (fb:=Kf) T sc_bar_of fun cdv f A outer s H E hr=>(qm (qJ (i:=3) sc_bar_of.nd rfl (ap rfl) (qo ok_circles_of hr (by decide) qL rfl (qc (vr 0) (qc (qo ok_ways_of hr (by decide) qL rfl (qc (vr 0) qf)) qf))))
  (qm (qJ (i:=4) sc_bar_of.nd rfl (bC rfl) (qo ok_first_odd hr (by decide) qL rfl (qc (vr 3) qf)))
  (qm (zG (N:=["root", "walk", "first"]) (nt:=2) (cap:=[4]) sc_bar_of.nd (i:=5) rfl (ap rfl) rfl (vp (names:=(qe uS).names) rfl (by decide +kernel)) (jN (names:=(qe uS).names) (N:=zR) rfl rfl (by decide +kernel)) (jm rfl (vr 3)) (fun fp L s1 H1=>(wx rfl rfl (qN (qB (i:=0) (show aS (["root", "walk", "first"]:List Str) from by decide +kernel) rfl (ap rfl)) (qN (qB (i:=1) (show aS (["root", "walk", "first"]:List Str) from by decide +kernel) rfl (ap rfl)) kN)))) (fun fp L s1 H1=>(Wq (jp rfl (qo ok_is_odd hr (by decide) wy rfl (qc (vr 1) qf)) (fun _=>rfl)))) (fun fp L s1 H1=>(jB (qc (vr 0) (qc (qO (jv rfl) (ju rfl hr.units (vr 2) (vr 0) (fun _ _=>rfl)) (vr 1)) qf)))))
  (qm (vR bj rfl (jm rfl (qO (jv rfl) (vr 3) (vb (i:=5) rfl (ap rfl) (by decide)))) (wx rfl rfl (qN (qB (i:=6) sc_bar_of.nd rfl (ap rfl)) (qN (qB (i:=7) sc_bar_of.nd rfl (ap rfl)) kN)))
  (qp (ji (jp rfl (qo ok_bars hr (by decide) qL rfl (qc (vr 7) (qc (vr 1) (qc (vr 2) qf)))) (fun _=>rfl)) (qp (qr (jB (qc (vr 6) (qc (vr 7) qf))))) qM)))
  (qp (qr QC))))))
abbrev qbE:Stmt:=top 51
abbrev qfh:List Str:=["words", "look", "room", "numbers"]
theorem qfi:FnScope qfh ["words", "look", "room", "numbers"] (qe qbE):=⟨rfl,rfl,rfl,by decide +kernel,rfl,by decide +kernel,by decide +kernel⟩
noncomputable def qbF:Sl->Out (Fl×Sl):=(jI (qx [.vl,.vl,.vl] Kg (qd (qx [.vl,.vl,.vl,.vl] qW (qd (ql 0) (qd (ql 1) (qd (ql 2) (qd (ql 3) qE))))) (qd (ql 2) (qd (ql 3) qE)))))
noncomputable abbrev qbG:List D->Out (D×List D):=jT qfh [.val,.val,.val,.val] (qbF)
abbrev qce P w K mg base cv:=DefOk P w K mg base cv 7 "bar" ["words", "look", "room", "numbers"] [.val,.val,.val,.val] .sh (qbG)
theorem qfj (Z:Zt K mg cv ca) (T:qU K mg "bar" qbE ["words", "look", "room", "numbers"]) (ok_told_pairs:kl P w K mg base cv) (ok_bar_of:VC P w K mg base cv):qce P w K mg base cv:=
 qF (k:=6) (own':=[]) (fb:=qbF) T qfi fun cdv f A outer s H E hr=>(qp (qr (qo ok_bar_of hr (by decide) qL rfl (qc (qo ok_told_pairs hr (by decide) qL rfl (qc (vr 0) (qc (vr 1) (qc (vr 2) (qc (vr 3) qf))))) (qc (vr 2) (qc (vr 3) qf))))))
abbrev Yp:Stmt:=top 52
abbrev qcf:List Str:=["total", "room", "rest"]
theorem sc_half:FnScope qcf ["total", "room"] (qe Yp):=⟨rfl,rfl,rfl,by decide +kernel,rfl,by decide +kernel,by decide +kernel⟩
noncomputable def GD:Sl->Out (Fl×Sl):=(qZ (ka 2 (d2 xo (ql 0) (ql 1)))
  (jI (dIf (jl (d2 eqD (d2 xo (ql 2) (dC (.int 2))) (dC (.int 0)))) (d2 Jh (ql 2) (dC (.int 2))) (d2 Jh (d2 kI (ql 2) (ql 1)) (dC (.int 2))))))
noncomputable abbrev GE:List D->Out (D×List D):=jT qcf [.val,.val] (GD)
abbrev GF P w K mg base cv:=DefOk P w K mg base cv 1 "half" ["total", "room"] [.val,.val] .sh (GE)
theorem qdu (Z:Zt K mg cv ca) (T:qU K mg "half" Yp ["total", "room"]):GF P w K mg base cv:=
 qF (k:=0) (own':=[]) (fb:=GD) T sc_half fun cdv f A outer s H E hr=>(qm (qJ (i:=2) sc_half.nd rfl (ap rfl) (qO vw (vr 0) (vr 1)))
  (qp (qr (Zi (qP (ya rfl hr.units) (qO vw (vr 2) qt) qt) (qO Ji (vr 2) qt) (qO Ji (qO (jv rfl) (vr 2) (vr 1)) qt)))))
abbrev kT:Stmt:=top 53
abbrev xc:List Str:=["walk", "room", "numbers", "worth"]
theorem sc_root_worths:FnScope xc ["walk", "room", "numbers"] (qe kT):=⟨rfl,rfl,rfl,by decide +kernel,rfl,by decide +kernel,by decide +kernel⟩
noncomputable def km:Sl->Out (Fl×Sl):=(qZ (sIf (jl (d2 eqD (d1 kt (ql 0)) (dC (.int 0)))) (jI (d1 yR (ql 1))) jt)
  (qZ (ka 3 (qx [.vl,.vl] GE (qd (qx [.vl,.vl,.vl] uR (qd (ql 0) (qd (ql 2) (qd (dC (.int 0)) qE)))) (qd (ql 1) qE))))
  (jI (dIf (jl (d2 eqD (d2 xo (ql 1) (dC (.int 2))) (dC (.int 0)))) (wt (qd (ql 3) (qd (d2 kI (ql 3) (d2 Jh (ql 1) (dC (.int 2)))) qE))) (wt (qd (ql 3) qE))))))
noncomputable abbrev kU:List D->Out (D×List D):=jT xc [.val,.val,.val] (km)
abbrev yf P w K mg base cv:=DefOk P w K mg base cv 2 "root_worths" ["walk", "room", "numbers"] [.val,.val,.val] .sh (kU)
theorem Qw (Z:Zt K mg cv ca) (T:qU K mg "root_worths" kT ["walk", "room", "numbers"]) (ok_comes_to:yr P w K mg base cv) (ok_half:GF P w K mg base cv):yf P w K mg base cv:=
 qF (k:=1) (own':=[]) (fb:=km) T sc_root_worths fun cdv f A outer s H E hr=>(qm (ji (qP (ya rfl hr.units) (qI (jD rfl) rfl Z.z_len jA (vr 0)) qt) (qp (qr (YX rfl rfl Z.z_list gE rfl Z.z_range qbp (vr 1)))) qM)
  (qm (qJ (i:=3) sc_root_worths.nd rfl (ap rfl) (qo ok_half hr (by decide) qL rfl (qc (qo ok_comes_to hr (by decide) qL rfl (qc (vr 0) (qc (vr 2) (qc qt qf)))) (qc (vr 1) qf))))
  (qp (qr (Zi (qP (ya rfl hr.units) (qO vw (vr 1) qt) qt) (jC (qc (vr 3) (qc (qO (jv rfl) (vr 3) (qO Ji (vr 1) qt)) qf))) (jC (qc (vr 3) qf)))))))
abbrev jY:Stmt:=top 54
abbrev wj:List Str:=["seen", "room", "numbers", "ways", "first", "roots"]
theorem sc_roots_of:FnScope wj ["seen", "room", "numbers"] (qe jY):=⟨rfl,rfl,rfl,by decide +kernel,rfl,by decide +kernel,by decide +kernel⟩
noncomputable def xL:Sl->Out (Fl×Sl):=(qZ (ka 3 (qx [.vl] uz (qd (ql 0) qE)))
  (qZ (ka 4 (qx [.vl] wO (qd (qx [.vl,.vl] vK (qd (ql 0) (qd (ql 3) qE))) qE)))
  (qZ (ka 5 (jw [] 1 [3] (vx (d1 wB (ql 3))) (gNm 0) (jl (d2 eqD (d2 ixD (d2 ixD (ql 1) (ql 0)) (dC (.int 0))) (ql 0))) (ql 0)))
  (jI (jw [] 1 [1,2,4] (vx (ql 5)) (gNm 0) ftT (ua (qd (ql 0) (qd (qx [.vl,.vl,.vl] kU (qd (qbk (ql 3) (ql 0) (wt qE)) (qd (ql 1) (qd (ql 2) qE)))) qE))))))))
noncomputable abbrev uT:List D->Out (D×List D):=jT wj [.val,.val,.val] (xL)
abbrev gX P w K mg base cv:=DefOk P w K mg base cv 4 "roots_of" ["seen", "room", "numbers"] [.val,.val,.val] .sh (uT)
theorem WY (Z:Zt K mg cv ca) (T:qU K mg "roots_of" jY ["seen", "room", "numbers"]) (ok_ways_of:xK P w K mg base cv) (ok_circles_of:wM P w K mg base cv) (ok_first_odd:uC P w K mg base cv) (ok_root_worths:yf P w K mg base cv):gX P w K mg base cv:=
 qF (k:=3) (own':=[]) (fb:=xL) T sc_roots_of fun cdv f A outer s H E hr=>(qm (qJ (i:=3) sc_roots_of.nd rfl (bC rfl) (qo ok_ways_of hr (by decide) qL rfl (qc (vr 0) qf)))
  (qm (qJ (i:=4) sc_roots_of.nd rfl (bC rfl) (qo ok_first_odd hr (by decide) qL rfl (qc (qo ok_circles_of hr (by decide) qL rfl (qc (vr 0) (qc (vr 3) qf))) qf)))
  (qm (zG (N:=["letter", "ways"]) (nt:=1) (cap:=[3]) sc_roots_of.nd (i:=5) rfl (ap rfl) rfl (vp (names:=(qe jY).names) rfl (by decide +kernel)) (jN (names:=(qe jY).names) (N:=wj) rfl rfl (by decide +kernel)) (jm rfl (qI (Xa rfl) rfl Z.z_sorted yT (vr 3))) (fun fp L s1 H1=>(qB (i:=0) (show aS (["letter", "ways"]:List Str) from by decide +kernel) rfl (ap rfl))) (fun fp L s1 H1=>(Wq (qP (ya rfl hr.units) (ju rfl hr.units (ju rfl hr.units (vr 1) (vr 0) (fun _ _=>rfl)) qt (fun _ _=>rfl)) (vr 0)))) (fun fp L s1 H1=>(vr 0)))
  (wq [5] (qp (qr (jz (N:=["root", "room", "numbers", "first"]) (nt:=1) (cap:=[1,2,4]) rfl (vp (names:=(qe jY).names) rfl (by decide +kernel)) (jN (names:=(qe jY).names) (N:=wj) rfl rfl (by decide +kernel)) (jm rfl (vr 5)) (fun fp L s1 H1=>(qB (i:=0) (show aS (["root", "room", "numbers", "first"]:List Str) from by decide +kernel) rfl (ap rfl))) (fun fp L s1 H1=>ja) (fun fp L s1 H1=>(jB (qc (vr 0) (qc (qo ok_root_worths hr (by decide) wy rfl (qc (qdn hr.units (vr 3) (vr 0) (jC qf)) (qc (vr 1) (qc (vr 2) qf)))) qf)))))))))))
abbrev uU:Stmt:=top 58
abbrev xM:List Str:=["words", "look", "room", "numbers", "count", "root", "choices"]
theorem sc_how_many:FnScope xM ["words", "look", "room", "numbers"] (qe uU):=⟨rfl,rfl,rfl,by decide +kernel,rfl,by decide +kernel,by decide +kernel⟩
noncomputable def wk:Sl->Out (Fl×Sl):=(qZ (sIf (jl (d2 qaQ (qx [.vl,.vl,.vl,.vl] qbG (qd (ql 0) (qd (ql 1) (qd (ql 2) (qd (ql 3) qE))))) (dC .non))) (jI (dC (.int 0))) jt)
  (qZ (ka 4 (dC (.int 1)))
  (qZ (Wp (vx (qx [.vl,.vl,.vl] uT (qd (qx [.vl,.vl] vS (qd (ql 0) (qd (ql 1) qE))) (qd (ql 2) (qd (ql 3) qE))))) (ko 2 (qG (gNm 5) (qG (gNm 6) kn)))
  (ka 4 (d2 Xw (ql 4) (d1 kt (ql 6)))))
  (jI (ql 4)))))
noncomputable abbrev jx:List D->Out (D×List D):=jT xM [.val,.val,.val,.val] (wk)
abbrev yv P w K mg base cv:=DefOk P w K mg base cv 8 "how_many" ["words", "look", "room", "numbers"] [.val,.val,.val,.val] .sh (jx)
theorem WZ (Z:Zt K mg cv ca) (T:qU K mg "how_many" uU ["words", "look", "room", "numbers"]) (ok_pairs:yY P w K mg base cv) (ok_bar:qce P w K mg base cv) (ok_roots_of:gX P w K mg base cv):yv P w K mg base cv:=
 qF (k:=7) (own':=[]) (fb:=wk) T sc_how_many fun cdv f A outer s H E hr=>(qm (ji (qP qcR (qo ok_bar hr (by decide) qL rfl (qc (vr 0) (qc (vr 1) (qc (vr 2) (qc (vr 3) qf))))) QC) (qp (qr qt)) qM)
  (qm (qJ (i:=4) sc_how_many.nd rfl (ap rfl) qt)
  (qm (vR bj rfl (jm rfl (qo ok_roots_of hr (by decide) qL rfl (qc (qo ok_pairs hr (by decide) qL rfl (qc (vr 0) (qc (vr 1) qf))) (qc (vr 2) (qc (vr 3) qf))))) (wx rfl rfl (qN (qB (i:=5) sc_how_many.nd rfl (ap rfl)) (qN (qB (i:=6) sc_how_many.nd rfl (ap rfl)) kN)))
  (qp (qJ (i:=4) sc_how_many.nd rfl (ap rfl) (qO KI (vr 4) (qI (jD rfl) rfl Z.z_len jA (vr 6))))))
  (qp (qr (vr 4))))))
abbrev wP:Stmt:=top 60
abbrev gY:List Str:=["words", "look", "room", "numbers", "at", "count", "seen"]
theorem sc_worths_at:FnScope gY ["words", "look", "room", "numbers", "at"] (qe wP):=⟨rfl,rfl,rfl,by decide +kernel,rfl,by decide +kernel,by decide +kernel⟩
noncomputable def wQ:Sl->Out (Fl×Sl):=(qZ (ka 5 (qx [.vl,.vl,.vl,.vl] jx (qd (ql 0) (qd (ql 1) (qd (ql 2) (qd (ql 3) qE))))))
  (qZ (sIf (QD (xZ (qx [.vl,.vl,.vl] jb (qd (ql 4) (qd (dC (.int 0)) (qd (d2 gc (ql 5) (dC (.int 1))) qE)))))) (ku "NoPlace" (qd (dC (.str "there are no worths of this number")) qE)) jt)
  qdT))
noncomputable abbrev jk:List D->Out (D×List D):=jT gY [.val,.val,.val,.val,.val] (wQ)
abbrev zq P w K mg base cv:=DefOk P w K mg base cv 9 "worths_at" ["words", "look", "room", "numbers", "at"] [.val,.val,.val,.val,.val] .sh (jk)
theorem VD (Z:Zt K mg cv ca) (T:qU K mg "worths_at" wP ["words", "look", "room", "numbers", "at"]) (ok_is_between:jK P w K mg base cv) (ok_how_many:yv P w K mg base cv):zq P w K mg base cv:=
 qF (k:=8) (own':=[]) (fb:=wQ) T sc_worths_at fun cdv f A outer s H E hr=>(qm (qJ (i:=5) sc_worths_at.nd rfl (ap rfl) (qo ok_how_many hr (by decide) qL rfl (qc (vr 0) (qc (vr 1) (qc (vr 2) (qc (vr 3) qf))))))
  (qm (ji (jy (jp rfl (qo ok_is_between hr (by decide) qL rfl (qc (vr 4) (qc qt (qc (qO xY (vr 5) qt) qf)))) (fun _=>rfl))) (qp (vh rfl (gn rfl) rfl rfl (Z.mref "NoPlace" (by decide +kernel)) (Z.xs.val "NoPlace" (by decide +kernel)) (Z.xin "NoPlace" (by decide +kernel)) (qc kL qf))) qM)
  gC))
abbrev uV:Stmt:=top 26
abbrev QT:List Str:=["thing", "room"]
theorem Ua:FnScope QT ["thing", "room"] (qe uV):=⟨rfl,rfl,rfl,by decide +kernel,rfl,by decide +kernel,by decide +kernel⟩
noncomputable def QU:Sl->Out (Fl×Sl):=(qZ (sIf (dOr (QD (xZ (d1 (zH "tuple") (ql 0)))) (jl (d2 neD (d1 kt (ql 0)) (dC (.int 2))))) (jI (dC (.bl false))) jt)
  (jI (KJ (qx [.vl] vm (qd (d2 ixD (ql 0) (dC (.int 0))) qE)) (qx [.vl,.vl,.vl] jb (qd (d2 ixD (ql 0) (dC (.int 1))) (qd (dC (.int 0)) (qd (d2 gc (ql 1) (dC (.int 1))) qE)))))))
noncomputable abbrev QV:List D->Out (D×List D):=jT QT [.val,.val] (QU)
abbrev gZ P w K mg base cv:=DefOk P w K mg base cv 2 "is_worth" ["thing", "room"] [.val,.val] .sh (QV)
theorem Ub (Z:Zt K mg cv ca) (T:qU K mg "is_worth" uV ["thing", "room"]) (ok_is_between:jK P w K mg base cv) (ok_is_letter:uq P w K mg base cv):gZ P w K mg base cv:=
 qF (k:=1) (own':=[]) (fb:=QU) T Ua fun cdv f A outer s H E hr=>(qm (ji (PW.pt (yc (jy (jp rfl (yK rfl rfl Z.z_isinstance qy rfl Z.z_tuple kQ (vr 0)) (fun _=>rfl))) (kK (qP (ge rfl hr.units) (qI (jD rfl) rfl Z.z_len jA (vr 0)) qt)))) (qp (qr yB)) qM)
  (qp (qr (KK (qo ok_is_letter hr (by decide) qL rfl (qc (ju rfl hr.units (vr 0) qt (fun _ _=>rfl)) qf)) (UB (qo ok_is_between hr (by decide) qL rfl (qc (ju rfl hr.units (vr 0) qt (fun _ _=>rfl)) (qc qt (qc (qO xY (vr 1) qt) qf)))))))))
abbrev jG:Stmt:=top 27
abbrev wR:List Str:=["thing", "room", "letters"]
theorem sc_is_worths:FnScope wR ["thing", "room"] (qe jG):=⟨rfl,rfl,rfl,by decide +kernel,rfl,by decide +kernel,by decide +kernel⟩
noncomputable def yw:Sl->Out (Fl×Sl):=(qZ (sIf (dOr (QD (xZ (d1 (zH "tuple") (ql 0)))) (QD (xZ (d1 qap (jw [] 1 [1] (vx (ql 0)) (gNm 0) ftT (qx [.vl,.vl] QV (qd (ql 0) (qd (ql 1) qE)))))))) (jI (dC (.bl false))) jt)
  (qZ (ka 2 (jw [] 1 [] (vx (ql 0)) (gNm 0) ftT (d2 ixD (ql 0) (dC (.int 0)))))
  (jI (d2 eqD (ql 2) (d1 wz (ql 2))))))
noncomputable abbrev wS:List D->Out (D×List D):=jT wR [.val,.val] (yw)
abbrev zr P w K mg base cv:=DefOk P w K mg base cv 3 "is_worths" ["thing", "room"] [.val,.val] .sh (wS)
theorem VE (Z:Zt K mg cv ca) (T:qU K mg "is_worths" jG ["thing", "room"]) (ok_is_worth:gZ P w K mg base cv):zr P w K mg base cv:=
 qF (k:=2) (own':=[]) (fb:=yw) T sc_is_worths fun cdv f A outer s H E hr=>(qm (ji (PW.pt (yc (jy (jp rfl (yK rfl rfl Z.z_isinstance qy rfl Z.z_tuple kQ (vr 0)) (fun _=>rfl))) (kK (jy (jp rfl (qI (Vb rfl rfl) rfl Z.z_all Vt (jz (N:=["part", "room"]) (nt:=1) (cap:=[1]) rfl (vp (names:=(qe jG).names) rfl (by decide +kernel)) (jN (names:=(qe jG).names) (N:=wR) rfl rfl (by decide +kernel)) (jm rfl (vr 0)) (fun fp L s1 H1=>(qB (i:=0) (show aS (["part", "room"]:List Str) from by decide +kernel) rfl (ap rfl))) (fun fp L s1 H1=>ja) (fun fp L s1 H1=>(qo ok_is_worth hr (by decide) wy rfl (qc (vr 0) (qc (vr 1) qf)))))) (fun _=>rfl)))))) (qp (qr yB)) qM)
  (qm (zG (N:=["part"]) (nt:=1) (cap:=[]) sc_is_worths.nd (i:=2) rfl (ap rfl) rfl (vp (names:=(qe jG).names) rfl (by decide +kernel)) (jN (names:=(qe jG).names) (N:=wR) rfl rfl (by decide +kernel)) (jm rfl (vr 0)) (fun fp L s1 H1=>(qB (i:=0) (show aS (["part"]:List Str) from by decide +kernel) rfl (ap rfl))) (fun fp L s1 H1=>ja) (fun fp L s1 H1=>(ju rfl hr.units (vr 0) qt (fun _ _=>rfl))))
  (wq [2] (qp (qr (yA (ya rfl hr.units) (vr 2) (xx rfl rfl rfl Z.z_sorted yT rfl Z.z_set Ye (vr 2))))))))
abbrev kB:Stmt:=top 32
abbrev yg:List Str:=["thing", "room"]
theorem Qa:FnScope yg ["thing", "room"] (qe kB):=⟨rfl,rfl,rfl,by decide +kernel,rfl,by decide +kernel,by decide +kernel⟩
noncomputable def vV:Sl->Out (Fl×Sl):=(sIf (QD (xZ (qx [.vl,.vl] wS (qd (ql 0) (qd (ql 1) qE))))) (ku "NoWorths" (qd (dC (.str "worths are a rising tuple of unlike letters, each with a number within the room")) qE)) jt)
noncomputable abbrev vW:List D->Out (D×List D):=jT yg [.val,.val] (vV)
abbrev uD P w K mg base cv:=DefOk P w K mg base cv 4 "check_worths" ["thing", "room"] [.val,.val] .sh (vW)
theorem Qb (Z:Zt K mg cv ca) (T:qU K mg "check_worths" kB ["thing", "room"]) (ok_is_worths:zr P w K mg base cv):uD P w K mg base cv:=
 qF (k:=3) (own':=[]) (fb:=vV) T Qa fun cdv f A outer s H E hr=>(qp (ji (jy (jp rfl (qo ok_is_worths hr (by decide) qL rfl (qc (vr 0) (qc (vr 1) qf))) (fun _=>rfl))) (qp (vh rfl (gn rfl) rfl rfl (Z.mref "NoWorths" (by decide +kernel)) (Z.xs.val "NoWorths" (by decide +kernel)) (Z.xin "NoWorths" (by decide +kernel)) (qc kL qf))) qM))
abbrev uW:Stmt:=top 39
abbrev QW:List Str:=["words", "look", "room", "worths", "seen", "worth_of"]
theorem sc_numbered:FnScope QW ["words", "look", "room", "worths"] (qe uW):=⟨rfl,rfl,rfl,by decide +kernel,rfl,by decide +kernel,by decide +kernel⟩
noncomputable def xN:Sl->Out (Fl×Sl):=(qZ (ka 4 (qx [.vl,.vl] vS (qd (ql 0) (qd (ql 1) qE))))
  (qZ (vd (qx [.vl] vG (qd (ql 2) qE)))
  (qZ (vd (qx [.vl,.vl] vW (qd (ql 3) (qd (ql 2) qE))))
  qdT)))
noncomputable abbrev xO:List D->Out (D×List D):=jT QW [.val,.val,.val,.val] (xN)
abbrev Qc P w K mg base cv:=DefOk P w K mg base cv 6 "numbered" ["words", "look", "room", "worths"] [.val,.val,.val,.val] .sh (xO)
theorem Uc (Z:Zt K mg cv ca) (T:qU K mg "numbered" uW ["words", "look", "room", "worths"]) (ok_check_room:wJ P w K mg base cv) (ok_check_worths:uD P w K mg base cv) (ok_pairs:yY P w K mg base cv):Qc P w K mg base cv:=
 qF (k:=5) (own':=[]) (fb:=xN) T sc_numbered fun cdv f A outer s H E hr=>(qm (qJ (i:=4) sc_numbered.nd rfl (ap rfl) (qo ok_pairs hr (by decide) qL rfl (qc (vr 0) (qc (vr 1) qf))))
  (qm (jq (qo ok_check_room hr (by decide) qL rfl (qc (vr 2) qf)))
  (qm (jq (qo ok_check_worths hr (by decide) qL rfl (qc (vr 3) (qc (vr 2) qf))))
  gC)))
abbrev vL:Stmt:=top 56
abbrev zt:List Str:=["words", "look", "room", "numbers", "thing", "given"]
theorem sc_is_telling:FnScope zt ["words", "look", "room", "numbers", "thing"] (qe vL):=⟨rfl,rfl,rfl,by decide +kernel,rfl,by decide +kernel,by decide +kernel⟩
noncomputable def vM (ca:Str->Addr):Sl->Out (Fl×Sl):=(qZ (vd (qx [.vl,.vl,.vl,.vl] qW (qd (ql 0) (qd (ql 1) (qd (ql 2) (qd (ql 3) qE))))))
  (qZ (VW 6 none (qaq ca ["NoWorths"]) (ka 5 (qx [.vl,.vl,.vl,.vl] xO (qd (ql 0) (qd (ql 1) (qd (ql 2) (qd (ql 4) qE)))))) (jI (dC (.bl false))))
  (jI (d2 eqD (ql 5) (ql 3)))))
noncomputable abbrev vN (ca:Str->Addr):List D->Out (D×List D):=jT zt [.val,.val,.val,.val,.val] (vM ca)
abbrev xf (ca:Str->Addr) P w K mg base cv:=DefOk P w K mg base cv 7 "is_telling" ["words", "look", "room", "numbers", "thing"] [.val,.val,.val,.val,.val] .sh (vN ca)
theorem Kh (Z:Zt K mg cv ca) (T:qU K mg "is_telling" vL ["words", "look", "room", "numbers", "thing"]) (ok_numbered:Qc P w K mg base cv) (ok_told_pairs:kl P w K mg base cv):xf ca P w K mg base cv:=
 qF (k:=6) (own':=[]) (fb:=vM ca) T sc_is_telling fun cdv f A outer s H E hr=>(qm (jq (qo ok_told_pairs hr (by decide) qL rfl (qc (vr 0) (qc (vr 1) (qc (vr 2) (qc (vr 3) qf))))))
  (qm (qaW (own2:=[]) (n:=6) rfl rfl rfl rfl (Z.mref "NoWorths" (by decide +kernel)) (qhP (Z.xs.val "NoWorths" (by decide +kernel)) Z.s_NoWorths) rfl (fun pn xe E hx=>(qp (qJ (i:=5) sc_is_telling.nd rfl (ap rfl) (qo ok_numbered hr (by decide) hx rfl (qc (vr 0) (qc (vr 1) (qc (vr 2) (qc (vr 4) qf)))))))) (fun e=>(qp (qr yB))))
  (qp (qr (yA (ya rfl hr.units) (vr 5) (vr 3))))))
abbrev uX:Stmt:=top 61
abbrev QX:List Str:=["words", "look", "room", "numbers", "thing", "is_one", "seen", "worth_of", "place", "root", "choices"]
theorem sc_place_of:FnScope QX ["words", "look", "room", "numbers", "thing"] (qe uX):=⟨rfl,rfl,rfl,by decide +kernel,rfl,by decide +kernel,by decide +kernel⟩
noncomputable def uY (ca:Str->Addr):Sl->Out (Fl×Sl):=(qZ (ka 5 (qx [.vl,.vl,.vl,.vl,.vl] (vN ca) (qd (ql 0) (qd (ql 1) (qd (ql 2) (qd (ql 3) (qd (ql 4) qE)))))))
  (qZ (ka 6 (qx [.vl,.vl] vS (qd (ql 0) (qd (ql 1) qE))))
  (qZ (sIf (dOr (QD (xZ (ql 5))) (jl (d2 neD (d1 kt (ql 4)) (d1 kt (qx [.vl] kE (qd (ql 6) qE)))))) (ku "NoWorths" (qd (dC (.str "these are no worths of just the letters that are seen, by which words have these numbers")) qE)) jt)
  qdT)))
noncomputable abbrev jr (ca:Str->Addr):List D->Out (D×List D):=jT QX [.val,.val,.val,.val,.val] (uY ca)
abbrev Qd (ca:Str->Addr) P w K mg base cv:=DefOk P w K mg base cv 8 "place_of" ["words", "look", "room", "numbers", "thing"] [.val,.val,.val,.val,.val] .sh (jr ca)
theorem Ud (Z:Zt K mg cv ca) (T:qU K mg "place_of" uX ["words", "look", "room", "numbers", "thing"]) (ok_pairs:yY P w K mg base cv) (ok_letters_of:wL P w K mg base cv) (ok_is_telling:xf ca P w K mg base cv):Qd ca P w K mg base cv:=
 qF (k:=7) (own':=[]) (fb:=uY ca) T sc_place_of fun cdv f A outer s H E hr=>(qm (qJ (i:=5) sc_place_of.nd rfl (ap rfl) (qo ok_is_telling hr (by decide) qL rfl (qc (vr 0) (qc (vr 1) (qc (vr 2) (qc (vr 3) (qc (vr 4) qf)))))))
  (qm (qJ (i:=6) sc_place_of.nd rfl (ap rfl) (qo ok_pairs hr (by decide) qL rfl (qc (vr 0) (qc (vr 1) qf))))
  (qm (ji (PW.pt (yc (jy (jp rfl (vr 5) (fun _=>rfl))) (kK (qP (ge rfl hr.units) (qI (jD rfl) rfl Z.z_len jA (vr 4)) (qI (jD rfl) rfl Z.z_len jA (qo ok_letters_of hr (by decide) qL rfl (qc (vr 6) qf))))))) (qp (vh rfl (gn rfl) rfl rfl (Z.mref "NoWorths" (by decide +kernel)) (Z.xs.val "NoWorths" (by decide +kernel)) (Z.xin "NoWorths" (by decide +kernel)) (qc kL qf))) qM)
  gC)))
abbrev uZ:Stmt:=top 66
abbrev QY:List Str:=["words", "look", "room", "numbers", "seen"]
theorem sc_left_out:FnScope QY ["words", "look", "room", "numbers"] (qe uZ):=⟨rfl,rfl,rfl,by decide +kernel,rfl,by decide +kernel,by decide +kernel⟩
noncomputable def xP:Sl->Out (Fl×Sl):=(qZ (ka 4 (qx [.vl,.vl,.vl,.vl] qW (qd (ql 0) (qd (ql 1) (qd (ql 2) (qd (ql 3) qE))))))
  qdT)
noncomputable abbrev jZ:List D->Out (D×List D):=jT QY [.val,.val,.val,.val] (xP)
abbrev Qe P w K mg base cv:=DefOk P w K mg base cv 7 "left_out" ["words", "look", "room", "numbers"] [.val,.val,.val,.val] .sh (jZ)
theorem Ue (Z:Zt K mg cv ca) (T:qU K mg "left_out" uZ ["words", "look", "room", "numbers"]) (ok_told_pairs:kl P w K mg base cv):Qe P w K mg base cv:=
 qF (k:=6) (own':=[]) (fb:=xP) T sc_left_out fun cdv f A outer s H E hr=>(qm (qJ (i:=4) sc_left_out.nd rfl (ap rfl) (qo ok_told_pairs hr (by decide) qL rfl (qc (vr 0) (qc (vr 1) (qc (vr 2) (qc (vr 3) qf))))))
  gC)
abbrev zS:Stmt:=top 68
abbrev Yq:List Str:=["words", "look", "room", "numbers", "seen"]
theorem sc_mended:FnScope Yq ["words", "look", "room", "numbers"] (qe zS):=⟨rfl,rfl,rfl,by decide +kernel,rfl,by decide +kernel,by decide +kernel⟩
noncomputable def Ki:Sl->Out (Fl×Sl):=(qZ (ka 4 (qx [.vl,.vl,.vl,.vl] qW (qd (ql 0) (qd (ql 1) (qd (ql 2) (qd (ql 3) qE))))))
  qdT)
noncomputable abbrev vO:List D->Out (D×List D):=jT Yq [.val,.val,.val,.val] (Ki)
abbrev VF P w K mg base cv:=DefOk P w K mg base cv 7 "mended" ["words", "look", "room", "numbers"] [.val,.val,.val,.val] .sh (vO)
theorem GG (Z:Zt K mg cv ca) (T:qU K mg "mended" zS ["words", "look", "room", "numbers"]) (ok_told_pairs:kl P w K mg base cv):VF P w K mg base cv:=
 qF (k:=6) (own':=[]) (fb:=Ki) T sc_mended fun cdv f A outer s H E hr=>(qm (qJ (i:=4) sc_mended.nd rfl (bC rfl) (qo ok_told_pairs hr (by decide) qL rfl (qc (vr 0) (qc (vr 1) (qc (vr 2) (qc (vr 3) qf))))))
  gC)
abbrev zT:Stmt:=top 84
abbrev Yr:List Str:=["_law_e", "_law_own"]
theorem sc_Lwhich:FnScope Yr ["_law_e"] (qe zT):=⟨rfl,rfl,rfl,by decide +kernel,rfl,by decide +kernel,by decide +kernel⟩
noncomputable def vP (ca:Str->Addr):Sl->Out (Fl×Sl):=(qZ (ka 1 (wt (qd (d1 (zd (Ve ca CS "NoWords")) (ql 0)) (qd (d1 (zd (Ve ca CS "NoLook")) (ql 0)) (qd (d1 (zd (Ve ca CS "NoNumbers")) (ql 0)) (qd (d1 (zd (Ve ca CS "NoRoom")) (ql 0)) qE))))))
  (qZ (vd (Kp 1 Xx (wt (qd (d1 (zd (Ve ca CS "NoWord")) (ql 0)) (qd (d1 (zd (Ve ca CS "NoWorths")) (ql 0)) (qd (d1 (zd (Ve ca CS "Never")) (ql 0)) (qd (d1 (zd (Ve ca CS "Full")) (ql 0)) qE)))))))
  (qZ (vd (Kp 1 Xx (wt (qd (d1 (zd (Ve ca CS "Known")) (ql 0)) (qd (d1 (zd (Ve ca CS "NoPlace")) (ql 0)) (qd (d1 (zd (Ve ca CS "NoLetters")) (ql 0)) (qd (d1 (zd (Ve ca CS "NoText")) (ql 0)) qE)))))))
  (qZ (vd (Kp 1 Qq (d1 (zd (Ve ca CS "Nothing")) (ql 0))))
  (qZ (sIf (dOr (jl (d2 neD (d1 (yN true) (ql 1)) (dC (.int 1)))) (QD (xZ (d1 (zd (qeV ca CS)) (ql 0))))) (jI (ua (qd (dC (.str "refused")) (qd (d1 VX (dC (.int 1))) qE)))) jt)
  (jI (ua (qd (dC (.str "refused")) (qd (d1 (yO true) (ql 1)) qE)))))))))
noncomputable abbrev kX (ca:Str->Addr):List D->Out (D×List D):=jT Yr [.val] (vP ca)
abbrev VG (ca:Str->Addr) P w K mg base cv:=qgC P w K mg base cv 1 "_law_which" ["_law_e"] [.val] .sh (kX ca)
theorem GH (Z:Zt K mg cv ca) (T:qU K mg "_law_which" zT ["_law_e"]):VG ca P w K mg base cv:=
 qgD (k:=0) (own':=[]) (fb:=vP ca) T sc_Lwhich fun cdv f A outer s H E hr=>(qm (kM (i:=1) sc_Lwhich.nd rfl (ap rfl) (jC (qc (wc rfl Z.z_isinstance qy rfl (Z.mref "NoWords" (by decide +kernel)) (Z.xs.ans (by decide +kernel)) (vr 0)) (qc (wc rfl Z.z_isinstance qy rfl (Z.mref "NoLook" (by decide +kernel)) (Z.xs.ans (by decide +kernel)) (vr 0)) (qc (wc rfl Z.z_isinstance qy rfl (Z.mref "NoNumbers" (by decide +kernel)) (Z.xs.ans (by decide +kernel)) (vr 0)) (qc (wc rfl Z.z_isinstance qy rfl (Z.mref "NoRoom" (by decide +kernel)) (Z.xs.ans (by decide +kernel)) (vr 0)) qf))))))
  (qm (jq (gj (i:=1) rfl (ap rfl) (by decide) (jC (qc (wc rfl Z.z_isinstance qy rfl (Z.mref "NoWord" (by decide +kernel)) (Z.xs.ans (by decide +kernel)) (vr 0)) (qc (wc rfl Z.z_isinstance qy rfl (Z.mref "NoWorths" (by decide +kernel)) (Z.xs.ans (by decide +kernel)) (vr 0)) (qc (wc rfl Z.z_isinstance qy rfl (Z.mref "Never" (by decide +kernel)) (Z.xs.ans (by decide +kernel)) (vr 0)) (qc (wc rfl Z.z_isinstance qy rfl (Z.mref "Full" (by decide +kernel)) (Z.xs.ans (by decide +kernel)) (vr 0)) qf)))))))
  (qm (jq (gj (i:=1) rfl (ap rfl) (by decide) (jC (qc (wc rfl Z.z_isinstance qy rfl (Z.mref "Known" (by decide +kernel)) (Z.xs.ans (by decide +kernel)) (vr 0)) (qc (wc rfl Z.z_isinstance qy rfl (Z.mref "NoPlace" (by decide +kernel)) (Z.xs.ans (by decide +kernel)) (vr 0)) (qc (wc rfl Z.z_isinstance qy rfl (Z.mref "NoLetters" (by decide +kernel)) (Z.xs.ans (by decide +kernel)) (vr 0)) (qc (wc rfl Z.z_isinstance qy rfl (Z.mref "NoText" (by decide +kernel)) (Z.xs.ans (by decide +kernel)) (vr 0)) qf)))))))
  (qm (jq (ui (i:=1) rfl rfl (ap rfl) (by decide) (wc rfl Z.z_isinstance qy rfl (Z.mref "Nothing" (by decide +kernel)) (Z.xs.ans (by decide +kernel)) (vr 0))))
  (wq [1] (qm (ji (PW.pt (yc (qP (ge rfl hr.units) (qa5 rfl (vr 1)) qt) (kK (jy (jp rfl (qc8 rfl Z.z_isinstance qy rfl Z.z_ValueError JC Z.xs.ansV (vr 0)) (fun _=>rfl)))))) (qp (qr (jB (qc kL (qc (KH zb qt) qf))))) qM)
  (qp (qr (jB (qc kL (qc (qa6 rfl (vr 1)) qf)))))))))))
abbrev Ys:Stmt:=top 85
abbrev qcg:List Str:=["_law_what", "_law_names", "_law_look_here", "_law_room", "_law_numbers", "_law_e"]
theorem sc_Lask:FnScope qcg ["_law_what", "_law_names", "_law_look_here", "_law_room", "_law_numbers"] (qe Ys):=⟨rfl,rfl,rfl,by decide +kernel,rfl,by decide +kernel,by decide +kernel⟩
noncomputable def xg (ca:Str->Addr):Sl->Out (Fl×Sl):=(VW 6 (some 5) (qaq ca CS) (qZ (sIf (jl (d2 ltD (ql 0) (dC (.int 3)))) (jI (gB [.vl,.vl,.vl,.vl] (ql 0) [jx,jZ,vO] (qd (ql 1) (qd (ql 2) (qd (ql 3) (qd (ql 4) qE)))))) jt)
  (jI (gB [.vl,.vl,.vl,.vl,.vl] (d2 gc (ql 0) (dC (.int 3))) [jk,jr ca] (qd (ql 1) (qd (ql 2) (qd (ql 3) (qd (ql 4) (qd (dC .non) qE)))))))) (jI (qx [.vl] (kX ca) (qd (ql 5) qE))))
noncomputable abbrev wW (ca:Str->Addr):List D->Out (D×List D):=jT qcg [.val,.val,.val,.val,.val] (xg ca)
abbrev GI (ca:Str->Addr) P w K mg base cv:=DefOk P w K mg base cv 10 "_law_ask" ["_law_what", "_law_names", "_law_look_here", "_law_room", "_law_numbers"] [.val,.val,.val,.val,.val] .sh (wW ca)
theorem qdv (Z:Zt K mg cv ca) (T:qU K mg "_law_ask" Ys ["_law_what", "_law_names", "_law_look_here", "_law_room", "_law_numbers"]) (ok_how_many:yv P w K mg base cv) (ok_worths_at:zq P w K mg base cv) (ok_place_of:Qd ca P w K mg base cv) (ok_left_out:Qe P w K mg base cv) (ok_mended:VF P w K mg base cv) (ok_Lwhich:VG ca P w K mg base cv):GI ca P w K mg base cv:=
 qF (k:=9) (own':=[]) (fb:=xg ca) T sc_Lask fun cdv f A outer s H E hr=>(qp (qc3 (own2:=[]) (n:=6) (j:=5) rfl rfl rfl rfl Z.m_WordError Z.xs.hit sc_Lask.nd rfl rfl rfl (fun pn xe E hx=>(qm (ji (qP qey (vr 0) qt) (qp (qr (ZZ (j:=8) (ca:=ca) (ns:=["how_many", "left_out", "mended"]) (gs:=[jx,jZ,vO]) ⟨⟨_,ok_how_many.mono (by decide)⟩,⟨_,ok_left_out.mono (by decide)⟩,⟨_,ok_mended.mono (by decide)⟩,trivial⟩ (fun x hx=>Z.fref x ((show ∀ x∈(["how_many", "left_out", "mended"]:List Str),x∈FS from by decide +kernel) x hx)) (by decide) hr (by decide) hx (ju rfl hr.units (jC (qc (ZY (Z.fref "how_many" (by decide +kernel)) rfl) (qc (ZY (Z.fref "left_out" (by decide +kernel)) rfl) (qc (ZY (Z.fref "mended" (by decide +kernel)) rfl) qf)))) (vr 0) (fun _ _=>rfl)) (qc (vr 1) (qc (vr 2) (qc (vr 3) (qc (vr 4) qf))))))) qM)
  (qp (qr (ZZ (j:=9) (ca:=ca) (ns:=["worths_at", "place_of"]) (gs:=[jk,jr ca]) ⟨⟨_,ok_worths_at.mono (by decide)⟩,⟨_,ok_place_of.mono (by decide)⟩,trivial⟩ (fun x hx=>Z.fref x ((show ∀ x∈(["worths_at", "place_of"]:List Str),x∈FS from by decide +kernel) x hx)) (by decide) hr (by decide) hx (ju rfl hr.units (jC (qc (ZY (Z.fref "worths_at" (by decide +kernel)) rfl) (qc (ZY (Z.fref "place_of" (by decide +kernel)) rfl) qf))) (qO xY (vr 0) qt) (fun _ _=>rfl)) (qc (vr 1) (qc (vr 2) (qc (vr 3) (qc (vr 4) (qc QC qf)))))))))) (fun e=>(qp (qr (ZA ok_Lwhich ((hr.quiet.mono (by decide)).mark _) wy rfl (qc (vr 5) qf)))))))
abbrev yx:Stmt:=top 86
abbrev VH:List Str:=["_law_script", "_law_town", "_law_none", "_law_wrong", "_law_names", "_law_look_here", "_law_room", "_law_numbers", "_law_bad", "_law_blind"]
theorem sc_law:FnScope VH ["_law_script"] (qe yx):=⟨rfl,rfl,rfl,by decide +kernel,rfl,by decide +kernel,by decide +kernel⟩
noncomputable def qdw (ca:Str->Addr):Sl->Out (Fl×Sl):=(qZ (ka 1 (wt qE))
  (qZ (qfR (qx [.vl,.sl 1,.vl,.vl] WT (qd (ql 0) (jQ (qd (dC (.int 5)) (qd (dC (.int 9)) qE))))) (ko 4 (qG (gNm 4) (qG (gNm 5) (qG (gNm 6) (qG (gNm 7) kn))))))
  (qZ (qfR (ua (qd (qx [.vl,.sl 1] uo (qd (ql 0) (jQ qE))) (qd (qx [.vl,.sl 1] yq (qd (ql 0) (jQ qE))) qE))) (ko 2 (qG (gNm 8) (qG (gNm 9) kn))))
  (qZ (ka 2 (qx [.vl,.sl 1,.vl] wC (qd (ql 0) (jQ (qd (wt fun ρ=>.ok ([(.int 0),(.int 100),.non,(.bl true),(.str "2"),(.tup [(.int 2)]),(.int (-1))],ρ)) qE)))))
  (qZ (ka 3 (wt (qd (dC .non) (qd (ua qE) (qd (d2 kI (ql 7) (ua (qd (dC (.int 0)) qE))) (qd (zc (ql 7) (some (dC (.int 1))) none none) (qd (d1 KZ (ql 7)) (qd (d2 kI (zc (ql 7) none (some (d1 VX (dC (.int 1)))) none) (ua (qd (ql 6) qE))) (qd (d2 kI (zc (ql 7) none (some (d1 VX (dC (.int 1)))) none) (ua (qd (d1 VX (dC (.int 1))) qE))) qE)))))))))
  (qZ (ka 3 (qx [.vl,.sl 1,.vl] wC (qd (ql 0) (jQ (qd (d2 kI (ql 3) (wt (qd (d2 kI (zc (ql 7) none (some (d1 VX (dC (.int 1)))) none) (ua (qd (dC .non) qE))) (qd (dC (.str "0")) (qd (d2 kI (zc (ql 7) none (some (d1 VX (dC (.int 1)))) none) (ua (qd (dC (.bl false)) qE))) qE))))) qE)))))
  (qZ (sIf (jl (d2 neD (jw [1] 1 [8,9,2,3] (jE (dC (.int 5))) (gNm 0) ftT (qx [.vl,.vl,.vl,.vl,.vl] (wW ca) (qd (ql 0) (qd (ql 1) (qd (ql 2) (qd (ql 3) (qd (ql 4) qE))))))) (d2 qar (wt fun ρ=>.ok ([(.tup [(.str "refused"),(.int 0)])],ρ)) (dC (.int 5))))) (jI (dC (.bl false))) jt)
  (qZ (sIf (jl (d2 neD (jw [1] 1 [4,9,2,3] (jE (dC (.int 5))) (gNm 0) ftT (qx [.vl,.vl,.vl,.vl,.vl] (wW ca) (qd (ql 0) (qd (ql 1) (qd (ql 2) (qd (ql 3) (qd (ql 4) qE))))))) (d2 qar (wt fun ρ=>.ok ([(.tup [(.str "refused"),(.int 1)])],ρ)) (dC (.int 5))))) (jI (dC (.bl false))) jt)
  (qZ (sIf (jl (d2 neD (jw [1] 1 [4,5,2,3] (jE (dC (.int 5))) (gNm 0) ftT (qx [.vl,.vl,.vl,.vl,.vl] (wW ca) (qd (ql 0) (qd (ql 1) (qd (ql 2) (qd (ql 3) (qd (ql 4) qE))))))) (d2 qar (wt fun ρ=>.ok ([(.tup [(.str "refused"),(.int 3)])],ρ)) (dC (.int 5))))) (jI (dC (.bl false))) jt)
  (qZ (sIf (jl (d2 neD (jw [1] 1 [4,5,6,3] (jE (dC (.int 5))) (gNm 0) ftT (qx [.vl,.vl,.vl,.vl,.vl] (wW ca) (qd (ql 0) (qd (ql 1) (qd (ql 2) (qd (ql 3) (qd (ql 4) qE))))))) (d2 qar (wt fun ρ=>.ok ([(.tup [(.str "refused"),(.int 2)])],ρ)) (dC (.int 5))))) (jI (dC (.bl false))) jt)
  (jI (d2 eqD (jw [1] 1 [4,5,6,7] (vx (ua (qd (dC (.int 3)) (qd (dC (.int 4)) qE)))) (gNm 0) ftT (qx [.vl,.vl,.vl,.vl,.vl] (wW ca) (qd (ql 0) (qd (ql 1) (qd (ql 2) (qd (ql 3) (qd (ql 4) qE))))))) (wt fun ρ=>.ok ([(.tup [(.str "refused"),(.int 9)]),(.tup [(.str "refused"),(.int 5)])],ρ))))))))))))))
noncomputable abbrev qbH (ca:Str->Addr):List D->Out (D×List D):=jT VH [.val] (qdw ca)
theorem qfk {f:Addr} {fd:FuncData} (Z:Zt K mg cv ca) (F:Fun K "law" "law" yx f fd) (ok_Lpick:uN P w K mg base cv) (ok_Ltold:Yk P w K mg base cv) (ok_Lodd_words:yU P w K mg base cv) (ok_Lodd_look:zk P w K mg base cv) (ok_Lask:GI ca P w K mg base cv):FnOk P w K mg base (CXk P w) 11 f fd ["_law_script"] (spD K cv [.val] .sh (qbH ca)):=
 qg8 (k:=10) (own':=[]) (fb:=qdw ca) F sc_law rfl (vZ rfl) (.inl rfl) (fun cdv A outer s H E hr=>(qm (kM (i:=1) sc_law.nd rfl (ap rfl) (jC qf))
  (qm (Zq (qo ok_Ltold hr (by decide) qL rfl (qc (vr 0) (qQ (i:=1) rfl (ap rfl) (by decide) (qc qt (qc qt qf))))) (wx rfl rfl (qN (qB (i:=4) sc_law.nd rfl (bC rfl)) (qN (qB (i:=5) sc_law.nd rfl (bC rfl)) (qN (qB (i:=6) sc_law.nd rfl (bC rfl)) (qN (qB (i:=7) sc_law.nd rfl (bC rfl)) kN))))))
  (qm (Zq (jB (qc (qo ok_Lodd_words hr (by decide) qL rfl (qc (vr 0) (qQ (i:=1) rfl (ap rfl) (by decide) qf))) (qc (qo ok_Lodd_look hr (by decide) qL rfl (qc (vr 0) (qQ (i:=1) rfl (ap rfl) (by decide) qf))) qf))) (wx rfl rfl (qN (qB (i:=8) sc_law.nd rfl (bC rfl)) (qN (qB (i:=9) sc_law.nd rfl (bC rfl)) kN))))
  (qm (qJ (i:=2) sc_law.nd rfl (bC rfl) (qo ok_Lpick hr (by decide) qL rfl (qc (vr 0) (qQ (i:=1) rfl (ap rfl) (by decide) (qc (wA 14 rfl) qf)))))
  (qm (qJ (i:=3) sc_law.nd rfl (bC rfl) (jC (qc QC (qc (jB qf) (qc (qO (jv rfl) (vr 7) (jB (qc qt qf))) (qc (yM rfl (vr 7) (yL qt) kx kx) (qc (kC (Wt rfl) rfl Z.z_list gE (vr 7)) (qc (qO (jv rfl) (yM rfl (vr 7) kx (yL (KH zb qt)) kx) (jB (qc (vr 6) qf))) (qc (qO (jv rfl) (yM rfl (vr 7) kx (yL (KH zb qt)) kx) (jB (qc (KH zb qt) qf))) qf)))))))))
  (qm (qJ (i:=3) sc_law.nd rfl (bC rfl) (qo ok_Lpick hr (by decide) qL rfl (qc (vr 0) (qQ (i:=1) rfl (ap rfl) (by decide) (qc (qO (jv rfl) (vr 3) (jC (qc (qO (jv rfl) (yM rfl (vr 7) kx (yL (KH zb qt)) kx) (jB (qc QC qf))) (qc kL (qc (qO (jv rfl) (yM rfl (vr 7) kx (yL (KH zb qt)) kx) (jB (qc yB qf))) qf))))) qf)))))
  (qm (ji (qP (ge rfl hr.units) (jz (N:=["_law_what", "_law_bad", "_law_blind", "_law_none", "_law_wrong"]) (nt:=1) (cap:=[8,9,2,3]) rfl (vp (names:=(qe yx).names) rfl (by decide +kernel)) (jN (names:=(qe yx).names) (N:=VH) rfl rfl (by decide +kernel)) (jU rfl Z.z_range qt) (fun fp L s1 H1=>(qB (i:=0) (show aS (["_law_what", "_law_bad", "_law_blind", "_law_none", "_law_wrong"]:List Str) from by decide +kernel) rfl (ap rfl))) (fun fp L s1 H1=>ja) (fun fp L s1 H1=>(qo ok_Lask hr (by decide) wy rfl (qc (vr 0) (qc (vr 1) (qc (vr 2) (qc (vr 3) (qc (vr 4) qf)))))))) (qO (Jx rfl) (wA 10 rfl) qt)) (qp (qr yB)) qM)
  (qm (ji (qP (ge rfl hr.units) (jz (N:=["_law_what", "_law_names", "_law_blind", "_law_none", "_law_wrong"]) (nt:=1) (cap:=[4,9,2,3]) rfl (vp (names:=(qe yx).names) rfl (by decide +kernel)) (jN (names:=(qe yx).names) (N:=VH) rfl rfl (by decide +kernel)) (jU rfl Z.z_range qt) (fun fp L s1 H1=>(qB (i:=0) (show aS (["_law_what", "_law_names", "_law_blind", "_law_none", "_law_wrong"]:List Str) from by decide +kernel) rfl (ap rfl))) (fun fp L s1 H1=>ja) (fun fp L s1 H1=>(qo ok_Lask hr (by decide) wy rfl (qc (vr 0) (qc (vr 1) (qc (vr 2) (qc (vr 3) (qc (vr 4) qf)))))))) (qO (Jx rfl) (wA 10 rfl) qt)) (qp (qr yB)) qM)
  (qm (ji (qP (ge rfl hr.units) (jz (N:=["_law_what", "_law_names", "_law_look_here", "_law_none", "_law_wrong"]) (nt:=1) (cap:=[4,5,2,3]) rfl (vp (names:=(qe yx).names) rfl (by decide +kernel)) (jN (names:=(qe yx).names) (N:=VH) rfl rfl (by decide +kernel)) (jU rfl Z.z_range qt) (fun fp L s1 H1=>(qB (i:=0) (show aS (["_law_what", "_law_names", "_law_look_here", "_law_none", "_law_wrong"]:List Str) from by decide +kernel) rfl (ap rfl))) (fun fp L s1 H1=>ja) (fun fp L s1 H1=>(qo ok_Lask hr (by decide) wy rfl (qc (vr 0) (qc (vr 1) (qc (vr 2) (qc (vr 3) (qc (vr 4) qf)))))))) (qO (Jx rfl) (wA 10 rfl) qt)) (qp (qr yB)) qM)
  (qm (ji (qP (ge rfl hr.units) (jz (N:=["_law_what", "_law_names", "_law_look_here", "_law_room", "_law_wrong"]) (nt:=1) (cap:=[4,5,6,3]) rfl (vp (names:=(qe yx).names) rfl (by decide +kernel)) (jN (names:=(qe yx).names) (N:=VH) rfl rfl (by decide +kernel)) (jU rfl Z.z_range qt) (fun fp L s1 H1=>(qB (i:=0) (show aS (["_law_what", "_law_names", "_law_look_here", "_law_room", "_law_wrong"]:List Str) from by decide +kernel) rfl (ap rfl))) (fun fp L s1 H1=>ja) (fun fp L s1 H1=>(qo ok_Lask hr (by decide) wy rfl (qc (vr 0) (qc (vr 1) (qc (vr 2) (qc (vr 3) (qc (vr 4) qf)))))))) (qO (Jx rfl) (wA 10 rfl) qt)) (qp (qr yB)) qM)
  (qp (qr (yA (ya rfl hr.units) (jz (N:=["_law_what", "_law_names", "_law_look_here", "_law_room", "_law_numbers"]) (nt:=1) (cap:=[4,5,6,7]) rfl (vp (names:=(qe yx).names) rfl (by decide +kernel)) (jN (names:=(qe yx).names) (N:=VH) rfl rfl (by decide +kernel)) (jm rfl (jB (qc qt (qc qt qf)))) (fun fp L s1 H1=>(qB (i:=0) (show aS (["_law_what", "_law_names", "_law_look_here", "_law_room", "_law_numbers"]:List Str) from by decide +kernel) rfl (ap rfl))) (fun fp L s1 H1=>ja) (fun fp L s1 H1=>(qo ok_Lask hr (by decide) wy rfl (qc (vr 0) (qc (vr 1) (qc (vr 2) (qc (vr 3) (qc (vr 4) qf)))))))) (wA 11 rfl))))))))))))))) fun _=>.inr rfl
end
end Kx
namespace Kx
open PySem PySem.Spec L2 L2.D2
variable {α:Type}
theorem ud (xs:List α) (k:Nat):atI xs (k:Int)=xs[k]?:=by
 unfold atI ixN
 rw [if_pos (by omega)]
 by_cases h:k < xs.length
 ·rw [if_pos (by omega)]
  simp
 ·rw [if_neg (by omega),bR (by omega)]
  rfl
theorem qfl {xs:List α} {i:Int} (h0:0<=i) (h1:i < xs.length):∃ d,atI xs i=some d/\d∈xs:=by
 obtain ⟨k,rfl⟩:=Int.eq_ofNat_of_zero_le h0
 have hk:k < xs.length:=by omega
 exact ⟨xs[k],by rw [ud,aG hk],ci hk⟩
theorem big:2000<=sizeLine:=by rw [sizeLine_eq]; decide
abbrev scr (ns:List Int):D:=.lst (ns.map .int)
theorem qdx (ns:List Int) (k:Nat):∃ i,xz [scr ns,.int k]=.ok (.int i,[.non,.non]):=by
 by_cases h:k < ns.length
 ·refine ⟨ns[k],?_⟩
  refine runD_ap.trans ?_
  simp [we,qu,kt,ltD,ixD,qv,h,ud]
 ·by_cases h0:ns=[]
  ·subst h0
   have hk:¬((k:Int) < 0):=by omega
   exact ⟨0,by refine runD_ap.trans ?_; simp [we,qu,kt,ltD,ixD,qv,eqD,eqN,uf,hk]⟩
  ·have hp:0 < ns.length:=List.length_pos_iff.mpr h0
   have hm:k % ns.length < ns.length:=Nat.mod_lt _ hp
   have e:atI (ns.map D.int) ((k:Int) % (ns.length:Int))=some (.int ns[k % ns.length]):=by
    rw [show ((k:Int) % (ns.length:Int))=((k % ns.length:Nat):Int) by simp,ud,aH,aG hm]
    rfl
   refine ⟨ns[k % ns.length] * 31+k,?_⟩
   refine runD_ap.trans ?_
   simp [we,qu,kt,ltD,ixD,qv,eqD,eqN,h,h0,xo,Xw,kI,wZ,hp,e,CMul]
variable {many:Int}
theorem qbI (ns:List Int) (k:Nat) (hm:0 < many):∃ r,0<=r/\r < many/\JE [scr ns,.int k,.int many]=.ok (.int r,[.non,.non,.non]):=by
 obtain ⟨c,hc⟩:=qdx ns k
 have h1:=eY (c * 1103515245+7919 * k+12345) (show (2147483647:Int)≠0 by decide)
 have h2:=dX (c * 1103515245+7919 * k+12345) (show (0:Int) < 2147483647 by decide)
 generalize hd:(c * 1103515245+7919 * (k:Int)+12345) % 2147483647=d at h1 h2
 have c1:L2.D2.qdO d 5:=⟨⟨by omega,by omega⟩,by omega,by omega⟩
 refine ⟨d ^ 5 % 2147483647 % 999983 % many,eY _ (by omega),dX _ hm,?_⟩
 refine runD_ap.trans ?_
 simp [JD,qu,qv,qC,qS,hc,Xw,xo,kI,qgS,wZ,hm,hd,c1,show ∀ j,CMul 7919 j from fun j=>.inl ⟨by omega,by omega⟩,show ∀ i,CMul i 1103515245 from fun i=>.inr ⟨by omega,by omega⟩]
theorem vX (ns:List Int) (town:List D) (hm:0 < many) (ht:town.length < 1000):∃ r,0<=r/\r < many/\jO [scr ns,.lst town,.int many]=.ok (.int r,[.non,.lst (town++[.int 0]),.non]):=by
 obtain ⟨r,h0,h1,h⟩:=qbI ns (town.length+1) hm
 have hl:town.length < sizeLine:=aD (dF ht (by decide)) big
 refine ⟨r,h0,h1,?_⟩
 simp at h
 refine runD_ap.trans ?_
 simp [WJ,qu,qv,qC,qS,uh,Qq,kt,hl,h]
theorem xQ (ns:List Int) (town xs:List D) (hx:xs≠[]) (ht:town.length < 1000):∃ d,d∈xs/\wC [scr ns,.lst town,.lst xs]=.ok (d,[.non,.lst (town++[.int 0]),.non]):=by
 have hp:0 < xs.length:=List.length_pos_iff.mpr hx
 obtain ⟨r,h0,h1,h⟩:=vX ns town (many:=(xs.length:Int)) (by omega) ht
 obtain ⟨d,e,hd⟩:=qfl (xs:=xs) h0 h1
 refine ⟨d,hd,?_⟩
 refine runD_ap.trans ?_
 simp [WK,qu,qv,qC,qS,kt,h,ixD,e]
def az (c:Nat):Prop:=97<=c/\c<=122
def qbJ (w:Str):Prop:=1<=w.length/\w.length<=6/\∀ c∈w.cps.toList,az c
theorem Qf (x:Str):x.length=x.cps.size:=rfl
theorem GJ (x y:Str):(x++y).cps=x.cps++y.cps:=rfl
def qf5 (ls:List Str):Prop:=ls≠[]/\∀ x∈ls,∃ c,az c/\x=⟨#[c]⟩
theorem GK:∀ cs:List Nat,eI (aJ "") (cs.map fun c=>(⟨#[c]⟩:Str))=⟨cs.toArray⟩:=by
 intro cs
 have e:∀ cs:List Nat,Str.join (aJ "") (cs.map fun c=>(⟨#[c]⟩:Str))=⟨cs.toArray⟩:=by
  intro cs
  induction cs with
  | nil=>rfl
  | cons c cs ih=>
   cases cs with
   | nil=>rfl
   | cons d ds=>
    show (⟨#[c]⟩:Str)++aJ ""++Str.join (aJ "") ((d::ds).map fun c=>(⟨#[c]⟩:Str))=_
    rw [ih]
    have:((⟨#[c]⟩:Str)++aJ ""++(⟨(d::ds).toArray⟩:Str)).cps=(c::d::ds).toArray:=by
     rw [GJ,GJ]
     have:(aJ "").cps=#[]:=by decide +kernel
     rw [this]
     simp
    generalize h:(⟨#[c]⟩:Str)++aJ ""++(⟨(d::ds).toArray⟩:Str)=x at this
    obtain ⟨y⟩:=x
    simp only at this
    rw [this]
 unfold eI
 rw [StrLaws.glued_eq_join]
 exact e cs
theorem Yt:∀ cs:List Nat,((cs.map fun c=>(⟨#[c]⟩:Str)).map (·.length)).sum=cs.length
 | []=>rfl
 | c::cs=>by
  have ih:=Yt cs
  rw [aF,aF,List.sum_cons,ih,aq]
  show 1 + _=_
  omega
theorem uE:∀ ws:List Str,gy (ws.map D.str)=some ws
 | []=>rfl
 | w::ws=>by simp [gy,uE ws]
variable {ls:List Str}
theorem VI (ns:List Int) (hl:qf5 ls):∀ (ds:List D) (town:List D) (k:Option D),town.length+ds.length < 1000 ->
  ∃ (cs:List Nat) (town':List D) (k':Option D),town'.length=town.length+ds.length/\cs.length=ds.length/\(∀ c∈cs,az c) /\
   jS (gNm 0) ftT (qx [.vl,.sl 2,.vl] wC (qd (ql 1) (jQ (qd (ql 3) qE)))) ds [k,some (scr ns),some (.lst town),some (.lst (ls.map D.str))]
    = .ok ((cs.map fun c=>(⟨#[c]⟩:Str)).map D.str,[k',some (scr ns),some (.lst town'),some (.lst (ls.map D.str))])
 | [],town,k,_=>⟨[],town,k,by simp,rfl,by simp,rfl⟩
 | d::ds,town,k,ht=>by
  rw [aq] at ht
  obtain ⟨e,he,hp⟩:=xQ ns town (ls.map D.str) (by simpa using hl.1) (by omega)
  obtain ⟨x,hx,rfl⟩:=ay.mp he
  obtain ⟨c,hc,rfl⟩:=hl.2 x hx
  obtain ⟨cs,town',k',a1,a2,a3,a4⟩:=VI ns hl ds (town++[.int 0]) (some d) (by rw [af]; simp; omega)
  refine ⟨c::cs,town',k',?_,by simp [a2],?_,?_⟩
  ·rw [a1,af,aq]
   simp
   omega
  ·intro y hy
   rcases ac.mp hy with rfl | hy
   ·exact hc
   ·exact a3 y hy
  ·simp [jS,gh,qC,qS,hp,a4]
theorem qdy (ns:List Int) (town:List D) (hl:qf5 ls) (ht:town.length < 900):∃ w town',qbJ w/\town'.length<=town.length+8/\JH [scr ns,.lst town,.lst (ls.map D.str),.int 6]=.ok (.str w,[.non,.lst town',.non,.non]):=by
 obtain ⟨r,r0,r1,hr⟩:=vX ns town (many:=6) (by omega) (by omega)
 have hlen:(QF 0 (1+r).toNat).length=(1+r).toNat:=by simp [QF]
 obtain ⟨cs,town',k',a1,a2,a3,a4⟩:=VI ns hl (QF 0 (1+r).toNat) (town++[.int 0]) none (by rw [hlen,af]; simp; omega)
 rw [hlen] at a1 a2
 rw [af] at a1
 simp at a1
 refine ⟨⟨cs.toArray⟩,town',⟨?_,?_,?_⟩,by omega,?_⟩
 ·show 1<=cs.toArray.size
  simp; omega
 ·show cs.toArray.size<=6
  simp; omega
 ·simpa using a3
 ·refine runD_ap.trans ?_
  have c1:-(2 ^ 62:Int)<=1+r/\1+r < 2 ^ 62:=by omega
  have hb:=big
  have hz:(QF 0 (1+r).toNat).length<=sizeLine:=by rw [hlen]; omega
  have e0:fz (aJ "")=0:=by decide +kernel
  have hs:=Yt cs
  have hj:ZW (aJ "") (.lst ((cs.map fun c=>(⟨#[c]⟩:Str)).map D.str))=.ok (.str ⟨cs.toArray⟩):=by
   unfold ZW
   simp only [uE,GK,hs]
   rw [if_pos ⟨by simp [e0]; omega,by show cs.toArray.size<=_; simp; omega⟩]
  simp only [WM,qu,xy,Vp,jw]
  simp [-cW,qC,qS,hr,jE,kI,-Int.reducePow,c1,hz,kO,a4,jR,hj,qv]
theorem xh (w:Str):∀ ws:List Str,VV 7 (.str w) (ws.map D.str)=some (decide (w∈ws))
 | []=>by simp [VV]
 | a::ws=>by
  have ih:=xh w ws
  simp only [aF,VV,ih]
  simp [eqN,eqS]
  by_cases h:a=w
  ·simp [h]
  ·simp [h,aX h]
def jH (ws:List Str):Prop:=1<=ws.length/\ws.length<=6/\ws.Nodup/\∀ w∈ws,qbJ w
abbrev GL:Sl->Out (Fl×Sl):=(qZ (ka 6 (qx [.vl,.sl 1,.vl,.vl] JH (qd (ql 0) (jQ (qd (ql 3) (qd (dC (.int 6)) qE))))))
  (sIf (jl (d2 Jq (ql 6) (ql 4))) (vd (Kp 4 Qq (ql 6))) jt))
theorem xR (ns:List Int) (most:D) (hls:qf5 ls):∀ (ds:List D) (town:List D) (ws:List Str) (k u:Option D),town.length+8 * ds.length < 900->ws.length+ds.length<=100->ws.Nodup->(∀ w∈ws,qbJ w) ->
  ∃ (town':List D) (ws':List Str) (k' u':Option D),town'.length<=town.length+8 * ds.length/\ws'.length<=ws.length+ds.length/\ws.length<=ws'.length/\(ds≠[]->1<=ws'.length)/\ws'.Nodup/\(∀ w∈ws',qbJ w) /\
   wY (gNm 5) GL ds [some (scr ns),some (.lst town),some most,some (.lst (ls.map D.str)),some (.lst (ws.map D.str)),k,u]=.ok (.nx,[some (scr ns),some (.lst town'),some most,some (.lst (ls.map D.str)),some (.lst (ws'.map D.str)),k',u'])
 | [],town,ws,k,u,_,_,hn,hw=>⟨town,ws,k,u,by simp,by simp,by simp,by simp,hn,hw,rfl⟩
 | d::ds,town,ws,k,u,ht,hl,hn,hw=>by
  rw [aq] at ht hl
  obtain ⟨w,t1,hW,ht1,hg⟩:=qdy ns town hls (by omega)
  have hb:=big
  have hz:ws.length < sizeLine:=by omega
  by_cases hm:w∈ws
  ·obtain ⟨town',ws',k',u',a1,a2,a3,a4,a5,a6,a7⟩:=xR ns most hls ds t1 ws (some d) (some (.str w)) (by omega) (by omega) hn hw
   refine ⟨town',ws',k',u',by rw [aq]; omega,by rw [aq]; omega,a3,fun _=>?_,a5,a6,?_⟩
   ·have:0 < ws.length:=List.length_pos_of_mem hm
    omega
   ·rw [<-a7]
    simp [wY,GL,qC,qS,hg,Jq,YL,inD,xh,hm]
  ·obtain ⟨town',ws',k',u',a1,a2,a3,a4,a5,a6,a7⟩:=xR ns most hls ds t1 (ws++[w]) (some d) (some (.str w)) (by omega) (by rw [af]; simp; omega) (c8.mpr ⟨hn,by simp,fun a ha b hb=>by
    rw [ax.mp hb]
    exact fun z=>hm (z ▸ ha)⟩) (fun x hx=>by
    rcases ai.mp hx with hx | hx
    ·exact hw x hx
    ·rw [ax.mp hx]
     exact hW)
   rw [af] at a2 a3
   simp at a2 a3
   refine ⟨town',ws',k',u',by rw [aq]; omega,by rw [aq]; omega,by omega,fun _=>by omega,a5,a6,?_⟩
   rw [<-a7]
   simp [wY,GL,qC,qS,hg,Jq,YL,inD,xh,hm,uh,Qq,hz]
noncomputable def LETS:List (List Str):=[["a", "b"],["a", "b", "c"],["a", "b", "c", "d"],["k", "m", "z", "a", "e"]]
theorem qdz:∀ ls∈LETS,qf5 ls:=by
 have h1:∀ ls∈LETS,∀ x∈ls,x∈(["a", "b", "c", "d", "k", "m", "z", "e"]:List Str):=by decide +kernel
 have h2:∀ ls∈LETS,ls≠[]:=by decide +kernel
 intro ls h
 refine ⟨h2 ls h,fun x hx=>?_⟩
 have h3:=h1 ls h x hx
 simp only [ac,aO,or_false] at h3
 rcases h3 with rfl | rfl | rfl | rfl | rfl | rfl | rfl | rfl
 ·exact ⟨97,by unfold az; decide,by decide +kernel⟩
 ·exact ⟨98,by unfold az; decide,by decide +kernel⟩
 ·exact ⟨99,by unfold az; decide,by decide +kernel⟩
 ·exact ⟨100,by unfold az; decide,by decide +kernel⟩
 ·exact ⟨107,by unfold az; decide,by decide +kernel⟩
 ·exact ⟨109,by unfold az; decide,by decide +kernel⟩
 ·exact ⟨122,by unfold az; decide,by decide +kernel⟩
 ·exact ⟨101,by unfold az; decide,by decide +kernel⟩
theorem qbK (ns:List Int) (town:List D) (ht:town.length < 700):∃ ws town',jH ws/\ws.length<=5/\town'.length<=town.length+50/\JJ [scr ns,.lst town,.int 5]=.ok (.tup (ws.map D.str),[.non,.lst town',.non]):=by
 obtain ⟨d,hd,hp⟩:=xQ ns town (LETS.map fun l=>.lst (l.map D.str)) (by simp [LETS]) (by omega)
 obtain ⟨ls,hls,rfl⟩:=ay.mp hd
 have hl:=qdz ls hls
 obtain ⟨r,r0,r1,hr⟩:=vX ns (town++[.int 0]) (many:=5) (by omega) (by rw [af]; simp; omega)
 have hlen:(QF 0 (1+r).toNat).length=(1+r).toNat:=by simp [QF]
 obtain ⟨town',ws',k',u',a1,a2,a3,a4,a5,a6,a7⟩:=xR ns (.int 5) hl (QF 0 (1+r).toNat) (town++[.int 0]++[.int 0]) [] none none (by rw [hlen,af,af]; simp; omega) (by rw [hlen]; simp; omega) cP (by simp)
 have hne:QF 0 (1+r).toNat≠[]:=fun z=>by
  rw [z] at hlen
  simp at hlen
  omega
 refine ⟨ws',town',⟨a4 hne,?_,a5,a6⟩,?_,?_,?_⟩
 ·rw [hlen] at a2
  simp at a2
  omega
 ·rw [hlen] at a2
  simp at a2
  omega
 ·rw [hlen,af,af] at a1
  simp at a1
  omega
 ·refine runD_ap.trans ?_
  have c1:-(2 ^ 62:Int)<=1+r/\1+r < 2 ^ 62:=by omega
  have hb:=big
  have hz:4<=sizeLine:=by omega
  simp only [aI,cQ,bP,bK] at a7 hr
  simp only [LETS,aF,bK] at hp
  simp [JI,qu,qv,qC,qS,hp,hr,jE,kI,-Int.reducePow,c1,hz,a7,gk]
def VS (p q:Int):Prop:=(-3<=p/\p<=2)/\-3<=q/\q<=2
theorem qdA (ns:List Int) (town:List D) (ht:town.length < 900):∃ p q town',VS p q/\town'.length=town.length+2/\WP [scr ns,.lst town]=.ok (.tup [.int p,.int q],[.non,.lst town']):=by
 obtain ⟨r,r0,r1,hr⟩:=vX ns town (many:=6) (by omega) (by omega)
 obtain ⟨u,u0,u1,hu⟩:=vX ns (town++[.int 0]) (many:=6) (by omega) (by rw [af]; simp; omega)
 have hb:=big
 have hz:2<=sizeLine:=by omega
 refine ⟨r - 3,u - 3,town++[.int 0,.int 0],⟨⟨by omega,by omega⟩,by omega,by omega⟩,by simp,?_⟩
 refine runD_ap.trans ?_
 simp only [aI,cQ,bP] at hu
 simp [WO,qu,qv,qC,qS,hr,hu,gc,wZ,hz]
noncomputable def xi (n:Nat) (p:Int):Nat:=(max 0 (min (if 0<=p then p else (n:Int)+p) ((n:Int) - 1))).toNat
noncomputable def Xy (w:Str) (p:Int):Str:=⟨#[(w.cps.toList[xi w.length p]?).getD 0]⟩
variable {w:Str}
theorem zu (hw:qbJ w) (p:Int):vn [.str w,.int p]=.ok (.str (Xy w p),[.non,.non]):=by
 have h1:=hw.1
 have hn:(w.cps.toList.length:Int)=w.length:=by simp [Qf]
 have key:∀ q:Int,q=(if 0<=p then p else (w.length:Int)+p)->atI w.cps.toList (if 0 < (if (w.length:Int) - 1 < q then (w.length:Int) - 1 else q) then (if (w.length:Int) - 1 < q then (w.length:Int) - 1 else q) else 0)=some ((w.cps.toList[xi w.length p]?).getD 0):=by
  intro q hq
  have e:(if 0 < (if (w.length:Int) - 1 < q then (w.length:Int) - 1 else q) then (if (w.length:Int) - 1 < q then (w.length:Int) - 1 else q) else 0)=(xi w.length p:Int):=by
   unfold xi
   rw [<-hq]
   have:1<=(w.length:Int):=by omega
   generalize (w.length:Int)=n at *
   split <;> split <;> omega
  have hl:xi w.length p < w.cps.toList.length:=by
   have hn':w.cps.toList.length=w.length:=by simp [Qf]
   rw [hn']
   unfold xi
   omega
  rw [e,ud,aG hl]
  rfl
 refine runD_ap.trans ?_
 by_cases hp:0<=p
 ·have k:=key p (by rw [if_pos hp])
  simp [wI,qu,qv,geD,wZ,hp,qfU,qfV,gc,kt,ixD,k,Xy]
 ·have k:=key (w.length+p) (by rw [if_neg hp])
  simp [wI,qu,qv,geD,wZ,hp,qfU,qfV,gc,kI,kt,ixD,k,Xy]
theorem GM (h:qbJ w):(∃ a,w=⟨#[a]⟩)\/(∃ a b,w=⟨#[a,b]⟩)\/(∃ a b c,w=⟨#[a,b,c]⟩)\/(∃ a b c d,w=⟨#[a,b,c,d]⟩)\/(∃ a b c d e,w=⟨#[a,b,c,d,e]⟩)\/∃ a b c d e f,w=⟨#[a,b,c,d,e,f]⟩:=by
 obtain ⟨⟨l⟩⟩:=w
 have h1:1<=l.length:=h.1
 have h2:l.length<=6:=h.2.1
 match l,h1,h2 with
 | [a],_,_=>exact .inl ⟨a,rfl⟩
 | [a,b],_,_=>exact .inr (.inl ⟨a,b,rfl⟩)
 | [a,b,c],_,_=>exact .inr (.inr (.inl ⟨a,b,c,rfl⟩))
 | [a,b,c,d],_,_=>exact .inr (.inr (.inr (.inl ⟨a,b,c,d,rfl⟩)))
 | [a,b,c,d,e],_,_=>exact .inr (.inr (.inr (.inr (.inl ⟨a,b,c,d,e,rfl⟩))))
 | [a,b,c,d,e,f],_,_=>exact .inr (.inr (.inr (.inr (.inr ⟨a,b,c,d,e,f,rfl⟩))))
variable {p:Int}
theorem VJ (hw:qbJ w) (h0:-3<=p) (h1:p<=2):Gx [.str w,.int p]=.ok (.str (Xy w p),[.non,.non]):=by
 have hp:p=-3\/p=-2\/p=-1\/p=0\/p=1\/p=2:=by omega
 rcases GM hw with ⟨a,rfl⟩ | ⟨a,b,rfl⟩ | ⟨a,b,c,rfl⟩ | ⟨a,b,c,d,rfl⟩ | ⟨a,b,c,d,e,rfl⟩ | ⟨a,b,c,d,e,f,rfl⟩ <;> rcases hp with rfl | rfl | rfl | rfl | rfl | rfl <;> kernel_rfl
variable {own:List Nat}
theorem xS (ρc:Sl):∀ (cap:List Nat) (n:Nat) (ρ:Sl),(∀ k∈cap,k∉own)->jR own ρc n cap ρ=ρ
 | [],n,ρ,_=>rfl
 | k::cap,n,ρ,h=>by
  unfold jR
  rw [if_neg (h k (aw ..))]
  exact xS ρc cap (n+1) ρ fun x hx=>h x (ae _ hx)
variable {fe:Sl->Out (D×Sl)} {ft:Sl->Out (Bool×Sl)} {caps:Sl}
theorem qfm {P:D->Bool} {F:D->D}:∀ (ds:List D) (x:Option D),(∀ d∈ds,ft (some d::caps)=.ok (P d,some d::caps))->(∀ d∈ds,P d=true->fe (some d::caps)=.ok (F d,some d::caps))->∃ x',jS (gNm 0) ft fe ds (x::caps)=.ok ((ds.filter P).map F,x'::caps)
 | [],x,_,_=>⟨x,rfl⟩
 | d::ds,x,h,h'=>by
  obtain ⟨x',e⟩:=qfm ds (some d) (fun d' hd=>h d' (ae _ hd)) fun d' hd=>h' d' (ae _ hd)
  refine ⟨x',?_⟩
  have h1:=h d (aw ..)
  have h2:=h' d (aw ..)
  cases q:P d with
  | true=>simp [jS,gh,h1,q,h2 q,e]
  | false=>simp [jS,gh,h1,q,e]
variable {cap:List Nat} {fi:Sl->Out (List D×Sl)} {ρ ρ1:Sl} {ds:List D}
theorem qch {fe:Sl->Out (D×Sl)} {ft:Sl->Out (Bool×Sl)} (P:D->Bool) (F:D->D) (ho:∀ k∈cap,k∉own) (h:fi ρ=.ok (ds,ρ1)) (hl:ds.length<=sizeLine)
  (ht:∀ d∈ds,ft (some d::cap.map fun k=>(ρ1[k]?).getD none)=.ok (P d,some d::cap.map fun k=>(ρ1[k]?).getD none)) (he:∀ d∈ds,P d=true->fe (some d::cap.map fun k=>(ρ1[k]?).getD none)=.ok (F d,some d::cap.map fun k=>(ρ1[k]?).getD none)) :
  jw own 1 cap fi (gNm 0) ft fe ρ=.ok (.lst ((ds.filter P).map F),ρ1):=by
 obtain ⟨x',e⟩:=qfm ds none ht he
 unfold jw
 rw [h]
 simp only [vt]
 rw [if_pos hl,show kO 1 cap ρ1=none::cap.map fun k=>(ρ1[k]?).getD none from rfl,e]
 simp only [vt,xS _ _ _ _ ho]
theorem Uf (F:D->D) (ho:∀ k∈cap,k∉own) (h:fi ρ=.ok (ds,ρ1)) (hl:ds.length<=sizeLine) (ht:∀ d∈ds,fe (some d::cap.map fun k=>(ρ1[k]?).getD none)=.ok (F d,some d::cap.map fun k=>(ρ1[k]?).getD none)) :
  jw own 1 cap fi (gNm 0) ftT fe ρ=.ok (.lst (ds.map F),ρ1):=by
 have e:=qch (ft:=ftT) (fun _=>true) F ho h hl (fun _ _=>rfl) fun d hd _=>ht d hd
 rw [dP.mpr fun _ _=>rfl] at e
 exact e
theorem xj (F:D->D) (h:fi ρ=.ok (ds,ρ1)) (hl:ds.length<=sizeLine) (ht:∀ d∈ds,fe (some d::cap.map fun k=>(ρ1[k]?).getD none)=.ok (F d,some d::cap.map fun k=>(ρ1[k]?).getD none)) :
  jw [] 1 cap fi (gNm 0) ftT fe ρ=.ok (.lst (ds.map F),ρ1):=Uf F (fun _ _=>by simp) h hl ht
theorem qci {P:D×D->Bool} {F:D×D->D}:∀ (ps:List (D×D)) (x y:Option D),(∀ p∈ps,ft (some p.1::some p.2::caps)=.ok (P p,some p.1::some p.2::caps))->(∀ p∈ps,P p=true->fe (some p.1::some p.2::caps)=.ok (F p,some p.1::some p.2::caps)) ->
  ∃ x' y',jS (ko 2 (qG (gNm 0) (qG (gNm 1) kn))) ft fe (ps.map fun p=>.tup [p.1,p.2]) (x::y::caps)=.ok ((ps.filter P).map F,x'::y'::caps)
 | [],x,y,_,_=>⟨x,y,rfl⟩
 | p::ps,x,y,h,h'=>by
  obtain ⟨x',y',e⟩:=qci ps (some p.1) (some p.2) (fun d' hd=>h d' (ae _ hd)) fun d' hd=>h' d' (ae _ hd)
  refine ⟨x',y',?_⟩
  have h1:=h p (aw ..)
  have h2:=h' p (aw ..)
  cases q:P p with
  | true=>simp [jS,gh,ko,qG,kn,h1,q,h2 q,e]
  | false=>simp [jS,gh,ko,qG,kn,h1,q,e]
theorem qdB {fe:Sl->Out (D×Sl)} {ft:Sl->Out (Bool×Sl)} {ps:List (D×D)} (P:D×D->Bool) (F:D×D->D) (ho:∀ k∈cap,k∉own) (h:fi ρ=.ok (ps.map fun p=>.tup [p.1,p.2],ρ1)) (hl:ps.length<=sizeLine)
  (ht:∀ p∈ps,ft (some p.1::some p.2::cap.map fun k=>(ρ1[k]?).getD none)=.ok (P p,some p.1::some p.2::cap.map fun k=>(ρ1[k]?).getD none))
  (he:∀ p∈ps,P p=true->fe (some p.1::some p.2::cap.map fun k=>(ρ1[k]?).getD none)=.ok (F p,some p.1::some p.2::cap.map fun k=>(ρ1[k]?).getD none)) :
  jw own 2 cap fi (ko 2 (qG (gNm 0) (qG (gNm 1) kn))) ft fe ρ=.ok (.lst ((ps.filter P).map F),ρ1):=by
 obtain ⟨x',y',e⟩:=qci ps none none ht he
 unfold jw
 rw [h]
 simp only [vt]
 rw [if_pos (by rw [aB]; exact hl),show kO 2 cap ρ1=none::none::cap.map fun k=>(ρ1[k]?).getD none from rfl,e]
 simp only [vt,xS _ _ _ _ ho]
noncomputable def jf (ws:List Str) (p q:Int):List (Str×Str):=ws.map fun w=>(Xy w p,Xy w q)
noncomputable def kG (l:List (Str×Str)):List D:=l.map fun x=>.tup [.str x.1,.str x.2]
variable {n:Nat}
theorem qR (h:n<=2000):n<=sizeLine:=bU h big
abbrev Wd (ws:List Str):D:=.tup (ws.map D.str)
abbrev Ld (p q:Int):D:=.tup [.int p,.int q]
variable {ws:List Str} {q:Int}
theorem QZ {G:List D->Out (D×List D)} (hw:jH ws) (hG:∀ w∈ws,G [.str w,.int p]=.ok (.str (Xy w p),[.non,.non])/\G [.str w,.int q]=.ok (.str (Xy w q),[.non,.non])) :
  jw [] 1 [1] (vx (ql 0)) (gNm 0) ftT (ua (qd (qx [.vl,.vl] G (qd (ql 0) (qd (d2 ixD (ql 1) (dC (.int 0))) qE))) (qd (qx [.vl,.vl] G (qd (ql 0) (qd (d2 ixD (ql 1) (dC (.int 1))) qE))) qE))) [some (Wd ws),some (Ld p q)]
   = .ok (.lst (kG (jf ws p q)),[some (Wd ws),some (Ld p q)]):=by
 have e:=xj (cap:=[1]) (fi:=vx (ql 0)) (ρ:=[some (Wd ws),some (Ld p q)]) (ρ1:=[some (Wd ws),some (Ld p q)]) (ds:=ws.map D.str)
  (fe:=(ua (qd (qx [.vl,.vl] G (qd (ql 0) (qd (d2 ixD (ql 1) (dC (.int 0))) qE))) (qd (qx [.vl,.vl] G (qd (ql 0) (qd (d2 ixD (ql 1) (dC (.int 1))) qE))) qE))))
  (fun d=>match d with | .str w=>.tup [.str (Xy w p),.str (Xy w q)] | d=>d) (by simp [kf]) (by rw [aB]; exact qR (by have:=hw.2.1; omega)) (fun d hd=>by
   obtain ⟨w,hm,rfl⟩:=ay.mp hd
   obtain ⟨h1,h2⟩:=hG w hm
   have hz:2<=sizeLine:=qR (by omega)
   simp [qC,qS,ixD,atI,ixN,h1,h2,hz])
 rw [e]
 simp [kG,jf]
theorem Qg (hw:jH ws) (hl:VS p q):gG [Wd ws,Ld p q]=.ok (.lst (kG (jf ws p q)),[.non,.non]):=by
 refine runD_ap.trans ?_
 have e:=QZ (G:=Gx) hw (p:=p) (q:=q) fun w hm=>⟨VJ (hw.2.2.2 w hm) hl.1.1 hl.1.2,VJ (hw.2.2.2 w hm) hl.2.1 hl.2.2⟩
 unfold WQ
 rw [xy,show qu JL [Wd ws,Ld p q]=[some (Wd ws),some (Ld p q)] from rfl,e]
 rfl
def Pl:D->Prop
 | .raw _=>False
 | .xcp _=>False
 | .ins _ _=>False
 | .dct _=>False
 | .at_ _ _=>False
 | _=>True
@[simp] theorem kk1:kw "NoneType" "int"=some false:=by decide +kernel
@[simp] theorem kk2:kw "bool" "int"=some true:=by decide +kernel
@[simp] theorem kk3:kw "int" "int"=some true:=by decide +kernel
@[simp] theorem kk4:kw "str" "int"=some false:=by decide +kernel
@[simp] theorem kk5:kw "tuple" "int"=some false:=by decide +kernel
@[simp] theorem kk6:kw "list" "int"=some false:=by decide +kernel
@[simp] theorem kb1:kw "NoneType" "bool"=some false:=by decide +kernel
@[simp] theorem kb2:kw "bool" "bool"=some true:=by decide +kernel
@[simp] theorem kb3:kw "int" "bool"=some false:=by decide +kernel
@[simp] theorem kb4:kw "str" "bool"=some false:=by decide +kernel
@[simp] theorem kb5:kw "tuple" "bool"=some false:=by decide +kernel
@[simp] theorem kb6:kw "list" "bool"=some false:=by decide +kernel
@[simp] theorem ks1:kw "NoneType" "str"=some false:=by decide +kernel
@[simp] theorem ks2:kw "bool" "str"=some false:=by decide +kernel
@[simp] theorem ks3:kw "int" "str"=some false:=by decide +kernel
@[simp] theorem ks4:kw "str" "str"=some true:=by decide +kernel
@[simp] theorem ks5:kw "tuple" "str"=some false:=by decide +kernel
@[simp] theorem ks6:kw "list" "str"=some false:=by decide +kernel
@[simp] theorem kt1:kw "NoneType" "tuple"=some false:=by decide +kernel
@[simp] theorem kt2:kw "bool" "tuple"=some false:=by decide +kernel
@[simp] theorem kt3:kw "int" "tuple"=some false:=by decide +kernel
@[simp] theorem kt4:kw "str" "tuple"=some false:=by decide +kernel
@[simp] theorem kt5:kw "tuple" "tuple"=some true:=by decide +kernel
@[simp] theorem kt6:kw "list" "tuple"=some false:=by decide +kernel
noncomputable def Ug:D->Bool
 | .tup _=>true
 | _=>false
noncomputable def isInt:D->Bool
 | .int _=>true
 | .bl _=>true
 | _=>false
variable {d:D}
theorem VL (h:Pl d):zH "tuple" d=.ok (.bl (Ug d)):=by cases d <;> first | exact h.elim | simp [zH,tyN,Ug]
noncomputable def qcj:D->Bool
 | .str x=>decide (x.length=1)&&(!yl x "a"&&!yl "z" x)
 | _=>false
noncomputable def xT (lo hi:Int):D->Bool
 | .int i=>decide (lo<=i)&&decide (i<=hi)
 | _=>false
theorem VM (h:Pl d):vm [d]=.ok (.bl (qcj d),[.non]):=by
 refine runD_ap.trans ?_
 cases d <;> first
  | exact h.elim
  | (simp [vj,qu,qv,zH,tyN,qcj]; done)
  | skip
 rename_i x
 by_cases h1:x.length=1
 ·have h1':(x.length:Int)=1:=by omega
  cases h2:yl x "a" <;> simp [vj,qu,zH,tyN,kt,eqD,eqN,eqS,leD,qv,qcj,h1,h1',h2]
 ·have h1':¬(x.length:Int)=1:=by omega
  simp [vj,qu,zH,tyN,kt,eqD,eqN,eqS,leD,qv,qcj,h1,h1']
theorem jL (h:Pl d) (lo hi:Int):jb [d,.int lo,.int hi]=.ok (.bl (xT lo hi d),[.non,.non,.non]):=by
 refine runD_ap.trans ?_
 cases d <;> first
  | exact h.elim
  | (simp [vC,qu,qv,zH,tyN,xT,wm]; done)
  | skip
 rename_i i
 by_cases h1:lo<=i <;> simp [vC,qu,zH,tyN,leD,qv,xT,wm,h1]
theorem qfn {c:Nat} (h:az c):qcj (.str ⟨#[c]⟩)=true:=by
 have ha:(aJ "a").cps.toList=[97]:=by decide +kernel
 have hz:(aJ "z").cps.toList=[122]:=by decide +kernel
 obtain ⟨h1,h2⟩:=h
 have l1:¬([c]:List Nat) < [97]:=by
  rw [List.cons_lt_cons_iff]
  simp
  omega
 have l2:¬([122]:List Nat) < [c]:=by
  rw [List.cons_lt_cons_iff]
  simp
  omega
 have e1:yl ⟨#[c]⟩ (aJ "a")=false:=by
  unfold yl
  rw [ha]
  exact decide_eq_false l1
 have e2:yl (aJ "z") ⟨#[c]⟩=false:=by
  unfold yl
  rw [hz]
  exact decide_eq_false l2
 simp [qcj,Qf,e1,e2]
theorem Ja (f:α->Bool):∀ l:List α,kr (l.map fun x=>.bl (f x))=some (l.map f)
 | []=>rfl
 | a::l=>by
  have ih:=Ja f l
  simp [kr,ih]
theorem zU (f:α->Bool) (l:List α):qap (.lst (l.map fun x=>.bl (f x)))=.ok (.bl (l.all f)):=by
 simp only [qap,Ja]
 simp [List.all_map,Function.comp_def]
theorem GN (hw:qbJ w) (p:Int):∃ c,az c/\Xy w p=⟨#[c]⟩:=by
 have hn:w.cps.toList.length=w.length:=by simp [Qf]
 have hl:xi w.length p < w.cps.toList.length:=by
  have:=hw.1
  rw [hn]
  unfold xi
  omega
 refine ⟨w.cps.toList[xi w.length p],hw.2.2 _ (ci hl),?_⟩
 unfold Xy
 rw [aG hl]
 rfl
theorem Xm (hw:qbJ w):yV [.str w]=.ok (.bl true,[.non]):=by
 refine runD_ap.trans ?_
 have e:=xj (cap:=[]) (fi:=vx (ql 0)) (ρ:=[some (.str w)]) (ρ1:=[some (.str w)]) (ds:=zw w) (fe:=qx [.vl] vm (qd (ql 0) qE)) (fun d=>.bl (qcj d)) (by simp [kf]) (by
   have:=hw.2.1
   simp [zw,<-Qf]
   exact qR (by omega)) (fun d hd=>by
   obtain ⟨c,hc,rfl⟩:=ay.mp hd
   have h1:=VM (d:=.str ⟨#[c]⟩) trivial
   simp [qC,qS,h1])
 have ha:(zw w).all qcj=true:=by
  rw [bh]
  intro d hd
  obtain ⟨c,hc,rfl⟩:=ay.mp hd
  exact qfn (hw.2.2 c hc)
 have h1:(1:Int)<=w.length:=by have:=hw.1; omega
 have h6:(w.length:Int)<=6:=by have:=hw.2.1; omega
 simp only [gL,qu,aF,bK,aq,bq,Nat.reduceAdd,dR,cM,bf]
 simp [zH,tyN,wm,kt,leD,h1,h6,e,zU,ha,qv]
theorem Qh:∀ (ws ks:List Str),ws.Nodup->(∀ x∈ws,x∉ks)->ws.foldl vo ks=ks++ws
 | [],ks,_,_=>by simp
 | w::ws,ks,hn,hd=>by
  have h1:=aL.mp hn
  rw [ce,show vo ks w=ks++[w] from if_neg (hd w (aw ..)),Qh ws (ks++[w]) h1.2 ?_]
  ·simp
  ·intro x hx z
   rcases ai.mp z with z | z
   ·exact hd x (ae _ hx) z
   ·rw [ax.mp z] at hx
    exact h1.1 hx
theorem xl (ws:List Str):∀ ks:List Str,ks.Nodup->(ws.foldl vo ks).Nodup/\∀ x,x∈ws.foldl vo ks↔x∈ks\/x∈ws:=by
 induction ws with
 | nil=>intro ks hn; exact ⟨hn,fun x=>by simp⟩
 | cons w ws ih=>
  intro ks hn
  have hn2:(vo ks w).Nodup:=by
   unfold vo
   split
   ·exact hn
   ·rename_i h
    exact c8.mpr ⟨hn,by simp,fun a ha b hb=>by
     rw [ax.mp hb]
     exact fun z=>h (z ▸ ha)⟩
  obtain ⟨a,b⟩:=ih (vo ks w) hn2
  refine ⟨a,fun x=>?_⟩
  rw [ce,b x]
  unfold vo
  split
  ·rename_i h
   constructor
   ·rintro (q | q)
    ·exact .inl q
    ·exact .inr (ae _ q)
   ·rintro (q | q)
    ·exact .inl q
    ·rcases ac.mp q with rfl | q
     ·exact .inl h
     ·exact .inr q
  ·simp [ai,or_assoc]
theorem Uh (hw:jH ws):xG [.tup (ws.map D.str)]=.ok (.bl true,[.non]):=by
 refine runD_ap.trans ?_
 have e:=xj (cap:=[]) (fi:=vx (ql 0)) (ρ:=[some (.tup (ws.map D.str))]) (ρ1:=[some (.tup (ws.map D.str))]) (ds:=ws.map D.str) (fe:=qx [.vl] yV (qd (ql 0) qE)) (fun d=>.bl true) (by simp [kf]) (by
   rw [aB]
   exact qR (by have:=hw.2.1; omega)) (fun d hd=>by
   obtain ⟨w,hm,rfl⟩:=ay.mp hd
   have h1:=Xm (hw.2.2.2 w hm)
   simp [qC,qS,h1])
 have h1:(1:Int)<=ws.length:=by have:=hw.1; omega
 have h6:(ws.length:Int)<=6:=by have:=hw.2.1; omega
 have hf:ws.foldl vo []=ws:=by rw [Qh ws [] hw.2.2.1 (by simp)]; simp
 have h4:ws.length < 4000:=by omega
 have ha:=zU (fun _:D=>true) (ws.map D.str)
 simp only [xF,qu,aF,bK,aq,bq,Nat.reduceAdd,dR,cM,bf]
 simp [-cW,zH,tyN,wm,kt,leD,h1,h6,e,ha,qv,Jt,zh,uE,hf,h4,eqD,eqN,eqS]
theorem yh (hw:jH ws):kS [.tup (ws.map D.str)]=.ok (.non,[.non]):=by
 refine runD_ap.trans ?_
 have h:=Uh hw
 simp [wG,qu,qv,qC,qS,h,wm]
theorem Xn (hl:VS p q):gP [.tup [.int p,.int q]]=.ok (.bl true,[.non]):=by
 refine runD_ap.trans ?_
 have e:=xj (cap:=[]) (fi:=vx (ql 0)) (ρ:=[some (.tup [.int p,.int q])]) (ρ1:=[some (.tup [.int p,.int q])]) (ds:=[.int p,.int q]) (fe:=qx [.vl,.vl,.vl] jb (qd (ql 0) (qd (dC (.int (-3))) (qd (dC (.int 2)) qE)))) (fun d=>.bl (xT (-3) 2 d)) (by simp [kf]) (qR (by simp)) (fun d hd=>by
   have hd:d=.int p\/d=.int q:=by simpa using hd
   have h1:=jL (d:=.int p) trivial (-3) 2
   have h2:=jL (d:=.int q) trivial (-3) 2
   rcases hd with rfl | rfl
   ·simp [qC,qS,h1]
   ·simp [qC,qS,h2])
 have b1:xT (-3) 2 (.int p)=true:=by simp [xT]; exact hl.1
 have b2:xT (-3) 2 (.int q)=true:=by simp [xT]; exact hl.2
 simp only [gO,qu,aF,bK,aq,bq,Nat.reduceAdd,dR,cM,bf]
 simp [zH,tyN,wm,kt,neD,eqN,eqS,e,qap,kr,b1,b2,qv]
theorem Kj (hl:VS p q):vE [.tup [.int p,.int q]]=.ok (.non,[.non]):=by
 refine runD_ap.trans ?_
 have h:=Xn hl
 simp [ur,qu,qv,qC,qS,h,wm]
theorem qbL (hw:jH ws) (hl:VS p q):vS [Wd ws,Ld p q]=.ok (.lst (kG (jf ws p q)),[.non,.non]):=by
 refine runD_ap.trans ?_
 have e:=QZ (G:=vn) hw (p:=p) (q:=q) fun w hm=>⟨zu (hw.2.2.2 w hm) p,zu (hw.2.2.2 w hm) q⟩
 have c1:=yh hw
 have c2:=Kj hl
 simp only [gR,qu,aF,bK,aq,bq,Nat.reduceAdd,dR,cM,bf]
 simp [qC,qS,c1,c2,e,qv]
theorem GO {a b:List Str} (ha:a.Nodup) (hb:b.Nodup) (h:∀ x,x∈a↔x∈b):a.Perm b:=(List.perm_ext_iff_of_nodup ha hb).mpr h
theorem GP {a b:List Str} (h:∀ x,x∈a↔x∈b):kD (a.foldl vo [])=kD (b.foldl vo []):=by
 obtain ⟨n1,m1⟩:=xl a [] cP
 obtain ⟨n2,m2⟩:=xl b [] cP
 have p:=GO n1 n2 fun x=>by
  rw [m1,m2,h]
 exact gx ((je _).trans (p.trans (je _).symm)) (vz _) (vz _)
noncomputable def LS (l:List (Str×Str)):List Str:=kD ((l.map (·.1)++l.map (·.2)).foldl vo [])
variable {x:Str}
theorem mem_LS {l:List (Str×Str)}:x∈LS l↔∃ p∈l,x=p.1\/x=p.2:=by
 unfold LS
 rw [(je _).mem_iff,(xl _ [] cP).2]
 simp only [aO,false_or,ai,ay]
 constructor
 ·rintro (⟨p,hp,rfl⟩ | ⟨p,hp,rfl⟩)
  ·exact ⟨p,hp,.inl rfl⟩
  ·exact ⟨p,hp,.inr rfl⟩
 ·rintro ⟨p,hp,rfl | rfl⟩
  ·exact .inl ⟨p,hp,rfl⟩
  ·exact .inr ⟨p,hp,rfl⟩
theorem Kk {l:List (Str×Str)} (hl:l.length<=20):kE [.lst (kG l)]=.ok (.lst ((LS l).map D.str),[.non]):=by
 refine runD_ap.trans ?_
 have hz:(kG l).length<=sizeLine:=by
  unfold kG
  rw [aB]
  exact qR (by omega)
 have e1:=xj (cap:=[]) (fi:=vx (ql 0)) (ρ:=[some (.lst (kG l))]) (ρ1:=[some (.lst (kG l))]) (ds:=kG l) (fe:=d2 ixD (ql 0) (dC (.int 0))) (fun d=>match d with | .tup [a,b]=>a | d=>d) (by simp [kf]) hz (fun d hd=>by
   obtain ⟨x,hx,rfl⟩:=ay.mp hd
   simp [ixD,atI,ixN])
 have e2:=xj (cap:=[]) (fi:=vx (ql 0)) (ρ:=[some (.lst (kG l))]) (ρ1:=[some (.lst (kG l))]) (ds:=kG l) (fe:=d2 ixD (ql 0) (dC (.int 1))) (fun d=>match d with | .tup [a,b]=>b | d=>d) (by simp [kf]) hz (fun d hd=>by
   obtain ⟨x,hx,rfl⟩:=ay.mp hd
   simp [ixD,atI,ixN])
 have f1:(kG l).map (fun d=>match d with | .tup [a,b]=>a | d=>d)=(l.map (·.1)).map D.str:=by simp [kG]
 have f2:(kG l).map (fun d=>match d with | .tup [a,b]=>b | d=>d)=(l.map (·.2)).map D.str:=by simp [kG]
 rw [f1] at e1
 rw [f2] at e2
 have hs:l.length+l.length<=sizeLine:=qR (by omega)
 have h64:l.length+l.length < 64:=by omega
 simp only [ux,qu,aF,bK,aq,bq,Nat.reduceAdd,dR,cM,bf,xy,Vp,Vq,e1,e2,vt]
 simp only [kI,aB,if_pos hs,qgG,vt,<-dO,wz,zh,uE,af,if_pos h64]
 simp [qv,LS]
theorem Yu:∀ l:List (Str×Str),(l.flatMap fun p=>[p.1,p.2]).length=2 * l.length
 | []=>rfl
 | a::l=>by
  rw [List.flatMap_cons,af,Yu l,aq]
  simp
  omega
variable {a:D}
theorem at0 {l:List D}:atI (a::l) 0=some a:=by
 have:=ud (a::l) 0
 simpa using this
variable {b:D}
theorem at1 {l:List D}:atI (a::b::l) 1=some b:=by
 have:=ud (a::b::l) 1
 simpa using this
noncomputable def prL (l:List (Str×Int)):List D:=l.map fun x=>.tup [.str x.1,.int x.2]
noncomputable def Qi (l:List (Str×Int)):List Str:=l.map (·.1)
theorem VN (h:Pl d) (hn:Ug d=false) (room:Int):wS [d,.int room]=.ok (.bl false,[.non,.non]):=by
 refine runD_ap.trans ?_
 have ht:=VL h
 simp [yw,qu,qv,ht,hn,wm]
noncomputable def bk (l:List (Str×Int)):List (Key×D):=l.map fun x=>(.inr x.1,.int x.2)
theorem VO:∀ l:List (Str×Int),zf (prL l)=some (bk l)
 | []=>rfl
 | x::l=>by
  have ih:=VO l
  unfold prL at ih ⊢
  rw [aF]
  simp [zf,qba,Kq,ih,bk]
theorem GQ:∀ (l:List (Str×Int)) (a:List (Key×D)),(Qi l).Nodup->(∀ x∈l,∀ p∈a,p.1≠.inr x.1)->(bk l).foldl (fun a p=>Wu a p.1 p.2) a=a++bk l
 | [],a,_,_=>by simp [bk]
 | x::l,a,hn,hd=>by
  have h1:=aL.mp (show (x.1::Qi l).Nodup from hn)
  have hp:Wu a (.inr x.1) (.int x.2)=a++[(.inr x.1,.int x.2)]:=by
   unfold Wu
   rw [if_neg]
   simp only [List.any_eq_true,decide_eq_true_eq,not_exists,not_and]
   exact fun p hp=>hd x (aw ..) p hp
  have ih:=GQ l (a++[(.inr x.1,.int x.2)]) h1.2 (fun y hy p hp=>by
   rcases ai.mp hp with hp | hp
   ·exact hd y (ae _ hy) p hp
   ·rw [ax.mp hp]
    intro z
    have z:x.1=y.1:=bp.inj z
    exact h1.1 (z ▸ ay.mpr ⟨y,hy,rfl⟩))
  show ((bk l).foldl (fun a p=>Wu a p.1 p.2) (Wu a (.inr x.1) (.int x.2)))=a++(.inr x.1,.int x.2)::bk l
  rw [hp,ih]
  simp
noncomputable def VY (l:List (Str×Int)) (x:Str):Int:=((l.find? fun y=>decide (y.1=x)).map (·.2)).getD 0
theorem GR:∀ {l:List (Str×Int)} {x:Str},x∈Qi l->(x,VY l x)∈l/\(bk l).find? (fun kv=>decide (kv.1=bp x))=some (.inr x,.int (VY l x))
 | [],x,h=>by cases h
 | a::l,x,h=>by
  by_cases e:a.1=x
  ·have hv:VY (a::l) x=a.2:=by simp [VY,e]
   rw [hv]
   refine ⟨?_,?_⟩
   ·rw [<-e]
    exact aw ..
   ·simp [bk,e]
  ·have hx:x∈Qi l:=by
    rcases ac.mp (show x∈a.1::Qi l from h) with z | z
    ·exact absurd z.symm e
    ·exact z
   obtain ⟨h1,h2⟩:=GR hx
   have hv:VY (a::l) x=VY l x:=by simp [VY,e]
   rw [hv]
   refine ⟨ae _ h1,?_⟩
   rw [<-h2]
   simp [bk,e]
variable {l:List (Str×Int)}
theorem qfo (h:x∈Qi l):ixD (.dct (bk l)) (.str x)=.ok (.int (VY l x)):=by
 simp [ixD,(GR h).2]
abbrev nn4:Sl:=[some .non,some .non,some .non,some .non]
theorem kY (h:Pl d):vG [d]=if xT 1 99 d=true then .ok (.non,[.non]) else .exc "NoRoom" [some .non]:=by
 refine runD_ap.trans ?_
 have h1:=jL h 1 99
 have hz:1<=sizeLine:=qR (by omega)
 cases e:xT 1 99 d <;> simp [ut,qu,qv,qC,qS,h1,e,wm,ku]
variable {room:Int}
theorem Qj {b:Bool} (h:wS [d,.int room]=.ok (.bl b,[.non,.non])):vW [d,.int room]=if b=true then .ok (.non,[.non,.non]) else .exc "NoWorths" [some .non,some .non]:=by
 refine runD_ap.trans ?_
 cases b <;> simp [vV,qu,qv,qC,qS,h,wm,ku]
noncomputable def qfp (l:List (Str×Int)) (s:List (Str×Str)) (r:Int):List D:=s.map fun x=>.int ((VY l x.1+VY l x.2) % r)
theorem qH {ms:List PM} {f g:Sl->Out (Fl×Sl)} (h:f ρ=.ok (.nx,ρ1)):ZT ms (qZ f g ρ)=ZT ms (g ρ1):=by
 rw [WC,h]
 rfl
abbrev qfq:Sl->Out (Fl×Sl):=(vd (Kp 2 Xx (d1 KZ (ql 3))))
theorem VP (a b:Option D):∀ (l:List (Str×Str)) (made:List Str) (x:Option D),made.length+2 * l.length<=1000->∃ x',wY (gNm 3) qfq (kG l) [a,b,some (.lst (made.map D.str)),x]=.ok (.nx,[a,b,some (.lst ((made++l.flatMap fun p=>[p.1,p.2]).map D.str)),x'])
 | [],made,x,_=>⟨x,by simp [kG,wY]⟩
 | p::l,made,x,h=>by
  rw [aq] at h
  obtain ⟨x',e⟩:=VP a b l (made++[p.1,p.2]) (some (.tup [.str p.1,.str p.2])) (by rw [af]; simp; omega)
  refine ⟨x',?_⟩
  have hz:2<=sizeLine:=qR (by omega)
  have hz2:made.length+2<=sizeLine:=qR (by omega)
  rw [show (made++(p::l).flatMap fun p=>[p.1,p.2])=(made++[p.1,p.2])++l.flatMap fun p=>[p.1,p.2] by simp,<-e]
  simp [kG,wY,qfq,uh,Xx,KZ,hz,hz2]
theorem Qx (hw:jH ws) (hl:VS p q):uP [Wd ws,Ld p q]=.ok (.lst ((LS (jf ws p q)).map D.str),[.non,.non]):=by
 refine runD_ap.trans ?_
 have h1:=Qg hw hl
 have hn:(jf ws p q).length<=6:=by simp [jf]; exact hw.2.1
 obtain ⟨x',e⟩:=VP (some (Wd ws)) (some (Ld p q)) (jf ws p q) [] none (by simp; omega)
 have hf:((jf ws p q).flatMap fun p=>[p.1,p.2]).length < 64:=by
  rw [Yu]
  omega
 have hs:kD (((jf ws p q).flatMap fun p=>[p.1,p.2]).foldl vo [])=LS (jf ws p q):=GP fun x=>by
  simp only [List.mem_flatMap,ai,ay,ac,aO,or_false]
  constructor
  ·rintro ⟨p,hp,rfl | rfl⟩
   ·exact .inl ⟨p,hp,rfl⟩
   ·exact .inr ⟨p,hp,rfl⟩
  ·rintro (⟨p,hp,rfl⟩ | ⟨p,hp,rfl⟩)
   ·exact ⟨p,hp,.inl rfl⟩
   ·exact ⟨p,hp,.inr rfl⟩
 simp only [bK,bP] at e
 simp [xC,qu,qv,qC,qS,h1,kf]
 rw [e]
 simp only [vt,Vp,Jv,cR,cS,wz,zh,uE,if_pos hf,hs]
 simp [qv]
variable {r:Int}
theorem GS (hw:jH ws) (hl:VS p q) (hr:0 < r) (hk:∀ x∈LS (jf ws p q),x∈Qi l):qds [Wd ws,Ld p q,.int r,.dct (bk l)]=.ok (.tup (qfp l (jf ws p q) r),[.non,.non,.non,.non]):=by
 refine runD_ap.trans ?_
 have h1:=Qg hw hl
 have hn:(jf ws p q).length<=6:=by simp [jf]; exact hw.2.1
 have e:=qdB (own:=[]) (cap:=[2,3]) (fi:=vx (qx [.vl,.vl] gG (qd (ql 0) (qd (ql 1) qE)))) (ft:=ftT) (fe:=d2 xo (d2 kI (d2 ixD (ql 3) (ql 0)) (d2 ixD (ql 3) (ql 1))) (ql 2))
  (ρ:=[some (Wd ws),some (Ld p q),some (.int r),some (.dct (bk l))]) (ρ1:=[some (Wd ws),some (Ld p q),some (.int r),some (.dct (bk l))]) (ps:=(jf ws p q).map fun x=>(.str x.1,.str x.2)) (fun _=>true) (fun d=>match d with | (.str a,.str b)=>.int ((VY l a+VY l b) % r) | _=>.non) (by simp)
  (by simp [qC,qS,h1,kf,kG]) (by rw [aB]; exact qR (by omega)) (fun _ _=>rfl) (fun d hd _=>by
   obtain ⟨x,hx,rfl⟩:=ay.mp hd
   have j1:=qfo (hk x.1 (mem_LS.mpr ⟨x,hx,.inl rfl⟩))
   have j2:=qfo (hk x.2 (mem_LS.mpr ⟨x,hx,.inr rfl⟩))
   simp [j1,j2,kI,xo,wZ,hr])
 rw [dP.mpr (fun _ _=>rfl)] at e
 have f:((jf ws p q).map fun x=>(D.str x.1,D.str x.2)).map (fun d=>match d with | (.str a,.str b)=>.int ((VY l a+VY l b) % r) | _=>.non)=qfp l (jf ws p q) r:=by simp [qfp]
 rw [f] at e
 unfold qdr
 rw [xy,Vp,show qu qbA [Wd ws,Ld p q,.int r,.dct (bk l)]=[some (Wd ws),some (Ld p q),some (.int r),some (.dct (bk l))] from rfl,e]
 simp [gk,qv]
theorem Jb (ns:List Int) (hr:0 < room):∀ (Ls:List Str) (town:List D) (x:Option D),town.length+Ls.length < 1000 ->
  ∃ (es:List (Str×Int)) (town':List D) (x':Option D),Qi es=Ls/\(∀ e∈es,0<=e.2/\e.2 < room)/\town'.length=town.length+Ls.length /\
   jS (gNm 0) ftT (ua (qd (ql 0) (qd (qx [.vl,.sl 2,.vl] jO (qd (ql 1) (jQ (qd (ql 3) qE)))) qE))) (Ls.map D.str) [x,some (scr ns),some (.lst town),some (.int room)]=.ok (prL es,[x',some (scr ns),some (.lst town'),some (.int room)])
 | [],town,x,_=>⟨[],town,x,rfl,by simp,by simp,rfl⟩
 | a::Ls,town,x,h=>by
  rw [aq] at h
  obtain ⟨r,r0,r1,hd⟩:=vX ns town (many:=room) hr (by omega)
  obtain ⟨es,town',x',a1,a0,a2,a3⟩:=Jb ns hr Ls (town++[.int 0]) (some (.str a)) (by rw [af]; simp; omega)
  have z2:2<=sizeLine:=qR (by omega)
  refine ⟨(a,r)::es,town',x',by simp [Qi] at a1 ⊢; exact a1,fun e he=>?_,by rw [a2,af]; simp; omega,?_⟩
  ·rcases ac.mp he with rfl | he
   ·exact ⟨r0,r1⟩
   ·exact a0 e he
  ·simp [jS,gh,qC,qS,hd,z2,a3,prL]
theorem qck (hw:jH ws) (p q:Int):(LS (jf ws p q)).length<=12:=by
 have hs:(jf ws p q).length<=6:=by simp [jf]; exact hw.2.1
 unfold LS
 rw [(je _).length_eq]
 have:=yQ ((jf ws p q).map (·.1)++(jf ws p q).map (·.2)) []
 simp only [af,aB,bq] at this
 omega
theorem qgT (hw:jH ws) (p q:Int):∀ x∈LS (jf ws p q),∃ c,az c/\x=⟨#[c]⟩:=fun x hx=>by
 obtain ⟨y,hy,h⟩:=mem_LS.mp hx
 obtain ⟨w,hm,rfl⟩:=ay.mp hy
 rcases h with rfl | rfl
 ·exact GN (hw.2.2.2 w hm) p
 ·exact GN (hw.2.2.2 w hm) q
def GT (ca:Str->Addr):Prop:=∀ x∈CS,∀ y∈CS,ca x=ca y->x=y
variable {ca:Str->Addr} {y:Str}
theorem qA (h:GT ca) (hx:x∈CS) (hy:y∈CS) {b:Bool} (e:decide (y=x)=b):Ve ca CS x (ca y)=some b:=by
 unfold Ve
 rw [if_pos (ay.mpr ⟨y,hy,rfl⟩),<-e]
 by_cases z:y=x
 ·simp [z]
 ·have:ca y≠ca x:=fun w=>z (h y hy x hx w)
  simp [z,this]
theorem xU (hy:y∈CS):qeV ca CS (ca y)=some true:=by
 unfold qeV
 rw [if_pos (ay.mpr ⟨y,hy,rfl⟩)]
theorem GU (hy:y∈CS):qaq ca CS y=some (ca y):=by
 unfold qaq
 rw [if_pos hy]
theorem Ui (h:GT ca):kX ca [.xcp (ca "NoWords")]=.ok (.tup [.str "refused",.int 0],[.non]):=by
 refine runD_ap.trans ?_
 have hy:(aJ "NoWords")∈CS:=by decide +kernel
 have a0:=qA h (x := "NoWords") (y := "NoWords") (b:=true) (by decide +kernel) hy (by decide +kernel)
 have a1:=qA h (x := "NoLook") (y := "NoWords") (b:=false) (by decide +kernel) hy (by decide +kernel)
 have a2:=qA h (x := "NoNumbers") (y := "NoWords") (b:=false) (by decide +kernel) hy (by decide +kernel)
 have a3:=qA h (x := "NoRoom") (y := "NoWords") (b:=false) (by decide +kernel) hy (by decide +kernel)
 have a4:=qA h (x := "NoWord") (y := "NoWords") (b:=false) (by decide +kernel) hy (by decide +kernel)
 have a5:=qA h (x := "NoWorths") (y := "NoWords") (b:=false) (by decide +kernel) hy (by decide +kernel)
 have a6:=qA h (x := "Never") (y := "NoWords") (b:=false) (by decide +kernel) hy (by decide +kernel)
 have a7:=qA h (x := "Full") (y := "NoWords") (b:=false) (by decide +kernel) hy (by decide +kernel)
 have a8:=qA h (x := "Known") (y := "NoWords") (b:=false) (by decide +kernel) hy (by decide +kernel)
 have a9:=qA h (x := "NoPlace") (y := "NoWords") (b:=false) (by decide +kernel) hy (by decide +kernel)
 have a10:=qA h (x := "NoLetters") (y := "NoWords") (b:=false) (by decide +kernel) hy (by decide +kernel)
 have a11:=qA h (x := "NoText") (y := "NoWords") (b:=false) (by decide +kernel) hy (by decide +kernel)
 have a12:=qA h (x := "Nothing") (y := "NoWords") (b:=false) (by decide +kernel) hy (by decide +kernel)
 have aT:=xU (ca:=ca) hy
 have z4:4<=sizeLine:=qR (by omega)
 have z8:8<=sizeLine:=qR (by omega)
 have z12:12<=sizeLine:=qR (by omega)
 have z12':12 < sizeLine:=aD (by decide) big
 have z2:2<=sizeLine:=qR (by omega)
 simp [vP,qu,qv,zd,a0,a1,a2,a3,a4,a5,a6,a7,a8,a9,a10,a11,a12,aT,z4,z8,z12,z12',z2,uh,Xx,Qq,yN,kr,neD,eqN,eqS,wm,yO,VX,cT,cq]
theorem Xo (h:GT ca):kX ca [.xcp (ca "NoLook")]=.ok (.tup [.str "refused",.int 1],[.non]):=by
 refine runD_ap.trans ?_
 have hy:(aJ "NoLook")∈CS:=by decide +kernel
 have a0:=qA h (x := "NoWords") (y := "NoLook") (b:=false) (by decide +kernel) hy (by decide +kernel)
 have a1:=qA h (x := "NoLook") (y := "NoLook") (b:=true) (by decide +kernel) hy (by decide +kernel)
 have a2:=qA h (x := "NoNumbers") (y := "NoLook") (b:=false) (by decide +kernel) hy (by decide +kernel)
 have a3:=qA h (x := "NoRoom") (y := "NoLook") (b:=false) (by decide +kernel) hy (by decide +kernel)
 have a4:=qA h (x := "NoWord") (y := "NoLook") (b:=false) (by decide +kernel) hy (by decide +kernel)
 have a5:=qA h (x := "NoWorths") (y := "NoLook") (b:=false) (by decide +kernel) hy (by decide +kernel)
 have a6:=qA h (x := "Never") (y := "NoLook") (b:=false) (by decide +kernel) hy (by decide +kernel)
 have a7:=qA h (x := "Full") (y := "NoLook") (b:=false) (by decide +kernel) hy (by decide +kernel)
 have a8:=qA h (x := "Known") (y := "NoLook") (b:=false) (by decide +kernel) hy (by decide +kernel)
 have a9:=qA h (x := "NoPlace") (y := "NoLook") (b:=false) (by decide +kernel) hy (by decide +kernel)
 have a10:=qA h (x := "NoLetters") (y := "NoLook") (b:=false) (by decide +kernel) hy (by decide +kernel)
 have a11:=qA h (x := "NoText") (y := "NoLook") (b:=false) (by decide +kernel) hy (by decide +kernel)
 have a12:=qA h (x := "Nothing") (y := "NoLook") (b:=false) (by decide +kernel) hy (by decide +kernel)
 have aT:=xU (ca:=ca) hy
 have z4:4<=sizeLine:=qR (by omega)
 have z8:8<=sizeLine:=qR (by omega)
 have z12:12<=sizeLine:=qR (by omega)
 have z12':12 < sizeLine:=aD (by decide) big
 have z2:2<=sizeLine:=qR (by omega)
 simp [vP,qu,qv,zd,a0,a1,a2,a3,a4,a5,a6,a7,a8,a9,a10,a11,a12,aT,z4,z8,z12,z12',z2,uh,Xx,Qq,yN,kr,neD,eqN,eqS,wm,yO,VX,cT,cq]
theorem Kl (h:GT ca):kX ca [.xcp (ca "NoNumbers")]=.ok (.tup [.str "refused",.int 2],[.non]):=by
 refine runD_ap.trans ?_
 have hy:(aJ "NoNumbers")∈CS:=by decide +kernel
 have a0:=qA h (x := "NoWords") (y := "NoNumbers") (b:=false) (by decide +kernel) hy (by decide +kernel)
 have a1:=qA h (x := "NoLook") (y := "NoNumbers") (b:=false) (by decide +kernel) hy (by decide +kernel)
 have a2:=qA h (x := "NoNumbers") (y := "NoNumbers") (b:=true) (by decide +kernel) hy (by decide +kernel)
 have a3:=qA h (x := "NoRoom") (y := "NoNumbers") (b:=false) (by decide +kernel) hy (by decide +kernel)
 have a4:=qA h (x := "NoWord") (y := "NoNumbers") (b:=false) (by decide +kernel) hy (by decide +kernel)
 have a5:=qA h (x := "NoWorths") (y := "NoNumbers") (b:=false) (by decide +kernel) hy (by decide +kernel)
 have a6:=qA h (x := "Never") (y := "NoNumbers") (b:=false) (by decide +kernel) hy (by decide +kernel)
 have a7:=qA h (x := "Full") (y := "NoNumbers") (b:=false) (by decide +kernel) hy (by decide +kernel)
 have a8:=qA h (x := "Known") (y := "NoNumbers") (b:=false) (by decide +kernel) hy (by decide +kernel)
 have a9:=qA h (x := "NoPlace") (y := "NoNumbers") (b:=false) (by decide +kernel) hy (by decide +kernel)
 have a10:=qA h (x := "NoLetters") (y := "NoNumbers") (b:=false) (by decide +kernel) hy (by decide +kernel)
 have a11:=qA h (x := "NoText") (y := "NoNumbers") (b:=false) (by decide +kernel) hy (by decide +kernel)
 have a12:=qA h (x := "Nothing") (y := "NoNumbers") (b:=false) (by decide +kernel) hy (by decide +kernel)
 have aT:=xU (ca:=ca) hy
 have z4:4<=sizeLine:=qR (by omega)
 have z8:8<=sizeLine:=qR (by omega)
 have z12:12<=sizeLine:=qR (by omega)
 have z12':12 < sizeLine:=aD (by decide) big
 have z2:2<=sizeLine:=qR (by omega)
 simp [vP,qu,qv,zd,a0,a1,a2,a3,a4,a5,a6,a7,a8,a9,a10,a11,a12,aT,z4,z8,z12,z12',z2,uh,Xx,Qq,yN,kr,neD,eqN,eqS,wm,yO,VX,cT,cq]
theorem Xp (h:GT ca):kX ca [.xcp (ca "NoRoom")]=.ok (.tup [.str "refused",.int 3],[.non]):=by
 refine runD_ap.trans ?_
 have hy:(aJ "NoRoom")∈CS:=by decide +kernel
 have a0:=qA h (x := "NoWords") (y := "NoRoom") (b:=false) (by decide +kernel) hy (by decide +kernel)
 have a1:=qA h (x := "NoLook") (y := "NoRoom") (b:=false) (by decide +kernel) hy (by decide +kernel)
 have a2:=qA h (x := "NoNumbers") (y := "NoRoom") (b:=false) (by decide +kernel) hy (by decide +kernel)
 have a3:=qA h (x := "NoRoom") (y := "NoRoom") (b:=true) (by decide +kernel) hy (by decide +kernel)
 have a4:=qA h (x := "NoWord") (y := "NoRoom") (b:=false) (by decide +kernel) hy (by decide +kernel)
 have a5:=qA h (x := "NoWorths") (y := "NoRoom") (b:=false) (by decide +kernel) hy (by decide +kernel)
 have a6:=qA h (x := "Never") (y := "NoRoom") (b:=false) (by decide +kernel) hy (by decide +kernel)
 have a7:=qA h (x := "Full") (y := "NoRoom") (b:=false) (by decide +kernel) hy (by decide +kernel)
 have a8:=qA h (x := "Known") (y := "NoRoom") (b:=false) (by decide +kernel) hy (by decide +kernel)
 have a9:=qA h (x := "NoPlace") (y := "NoRoom") (b:=false) (by decide +kernel) hy (by decide +kernel)
 have a10:=qA h (x := "NoLetters") (y := "NoRoom") (b:=false) (by decide +kernel) hy (by decide +kernel)
 have a11:=qA h (x := "NoText") (y := "NoRoom") (b:=false) (by decide +kernel) hy (by decide +kernel)
 have a12:=qA h (x := "Nothing") (y := "NoRoom") (b:=false) (by decide +kernel) hy (by decide +kernel)
 have aT:=xU (ca:=ca) hy
 have z4:4<=sizeLine:=qR (by omega)
 have z8:8<=sizeLine:=qR (by omega)
 have z12:12<=sizeLine:=qR (by omega)
 have z12':12 < sizeLine:=aD (by decide) big
 have z2:2<=sizeLine:=qR (by omega)
 simp [vP,qu,qv,zd,a0,a1,a2,a3,a4,a5,a6,a7,a8,a9,a10,a11,a12,aT,z4,z8,z12,z12',z2,uh,Xx,Qq,yN,kr,neD,eqN,eqS,wm,yO,VX,cT,cq]
theorem VQ (h:GT ca):kX ca [.xcp (ca "NoWorths")]=.ok (.tup [.str "refused",.int 5],[.non]):=by
 refine runD_ap.trans ?_
 have hy:(aJ "NoWorths")∈CS:=by decide +kernel
 have a0:=qA h (x := "NoWords") (y := "NoWorths") (b:=false) (by decide +kernel) hy (by decide +kernel)
 have a1:=qA h (x := "NoLook") (y := "NoWorths") (b:=false) (by decide +kernel) hy (by decide +kernel)
 have a2:=qA h (x := "NoNumbers") (y := "NoWorths") (b:=false) (by decide +kernel) hy (by decide +kernel)
 have a3:=qA h (x := "NoRoom") (y := "NoWorths") (b:=false) (by decide +kernel) hy (by decide +kernel)
 have a4:=qA h (x := "NoWord") (y := "NoWorths") (b:=false) (by decide +kernel) hy (by decide +kernel)
 have a5:=qA h (x := "NoWorths") (y := "NoWorths") (b:=true) (by decide +kernel) hy (by decide +kernel)
 have a6:=qA h (x := "Never") (y := "NoWorths") (b:=false) (by decide +kernel) hy (by decide +kernel)
 have a7:=qA h (x := "Full") (y := "NoWorths") (b:=false) (by decide +kernel) hy (by decide +kernel)
 have a8:=qA h (x := "Known") (y := "NoWorths") (b:=false) (by decide +kernel) hy (by decide +kernel)
 have a9:=qA h (x := "NoPlace") (y := "NoWorths") (b:=false) (by decide +kernel) hy (by decide +kernel)
 have a10:=qA h (x := "NoLetters") (y := "NoWorths") (b:=false) (by decide +kernel) hy (by decide +kernel)
 have a11:=qA h (x := "NoText") (y := "NoWorths") (b:=false) (by decide +kernel) hy (by decide +kernel)
 have a12:=qA h (x := "Nothing") (y := "NoWorths") (b:=false) (by decide +kernel) hy (by decide +kernel)
 have aT:=xU (ca:=ca) hy
 have z4:4<=sizeLine:=qR (by omega)
 have z8:8<=sizeLine:=qR (by omega)
 have z12:12<=sizeLine:=qR (by omega)
 have z12':12 < sizeLine:=aD (by decide) big
 have z2:2<=sizeLine:=qR (by omega)
 simp [vP,qu,qv,zd,a0,a1,a2,a3,a4,a5,a6,a7,a8,a9,a10,a11,a12,aT,z4,z8,z12,z12',z2,uh,Xx,Qq,yN,kr,neD,eqN,eqS,wm,yO,VX,cT,cq]
theorem Uj (h:GT ca):kX ca [.xcp (ca "NoPlace")]=.ok (.tup [.str "refused",.int 9],[.non]):=by
 refine runD_ap.trans ?_
 have hy:(aJ "NoPlace")∈CS:=by decide +kernel
 have a0:=qA h (x := "NoWords") (y := "NoPlace") (b:=false) (by decide +kernel) hy (by decide +kernel)
 have a1:=qA h (x := "NoLook") (y := "NoPlace") (b:=false) (by decide +kernel) hy (by decide +kernel)
 have a2:=qA h (x := "NoNumbers") (y := "NoPlace") (b:=false) (by decide +kernel) hy (by decide +kernel)
 have a3:=qA h (x := "NoRoom") (y := "NoPlace") (b:=false) (by decide +kernel) hy (by decide +kernel)
 have a4:=qA h (x := "NoWord") (y := "NoPlace") (b:=false) (by decide +kernel) hy (by decide +kernel)
 have a5:=qA h (x := "NoWorths") (y := "NoPlace") (b:=false) (by decide +kernel) hy (by decide +kernel)
 have a6:=qA h (x := "Never") (y := "NoPlace") (b:=false) (by decide +kernel) hy (by decide +kernel)
 have a7:=qA h (x := "Full") (y := "NoPlace") (b:=false) (by decide +kernel) hy (by decide +kernel)
 have a8:=qA h (x := "Known") (y := "NoPlace") (b:=false) (by decide +kernel) hy (by decide +kernel)
 have a9:=qA h (x := "NoPlace") (y := "NoPlace") (b:=true) (by decide +kernel) hy (by decide +kernel)
 have a10:=qA h (x := "NoLetters") (y := "NoPlace") (b:=false) (by decide +kernel) hy (by decide +kernel)
 have a11:=qA h (x := "NoText") (y := "NoPlace") (b:=false) (by decide +kernel) hy (by decide +kernel)
 have a12:=qA h (x := "Nothing") (y := "NoPlace") (b:=false) (by decide +kernel) hy (by decide +kernel)
 have aT:=xU (ca:=ca) hy
 have z4:4<=sizeLine:=qR (by omega)
 have z8:8<=sizeLine:=qR (by omega)
 have z12:12<=sizeLine:=qR (by omega)
 have z12':12 < sizeLine:=aD (by decide) big
 have z2:2<=sizeLine:=qR (by omega)
 simp [vP,qu,qv,zd,a0,a1,a2,a3,a4,a5,a6,a7,a8,a9,a10,a11,a12,aT,z4,z8,z12,z12',z2,uh,Xx,Qq,yN,kr,neD,eqN,eqS,wm,yO,VX,cT,cq]
noncomputable def ODW:List D:=[.non,(.int 5),(.tup []),(.lst [(.str "ab")]),(.tup [(.str "ab"),(.str "ab")]),(.tup [(.str "")]),(.tup [(.str "abcdefg")]),(.tup [(.str "Ab")]),(.tup [(.str "a b")]),(.str "ab"),(.tup [(.int 1)]),(.tup [(.str "ab"),.non]),.tup (zw "abcdefg"),.tup [.str "ab",.str "a1"],.tup [.tup [.str "a"]]]
noncomputable def ODL:List D:=[.non,(.int 5),(.tup []),(.tup [(.int 0)]),(.tup [(.int 0),(.int 1),(.int 2)]),(.lst [(.int 0),(.int 1)]),(.tup [(.int 0),(.int 3)]),(.tup [(.int (-4)),(.int 0)]),(.tup [(.bl true),(.int 0)]),(.tup [(.int 0),(.bl false)]),(.tup [(.int 0),.non]),(.str "01"),(.tup [(.str "0"),(.int 1)])]
def qfr (d:D):Prop:=kS [d]=.exc "NoWords" [some .non]
def qfs (d:D):Prop:=vE [d]=.exc "NoLook" [some .non]
theorem qdC:∀ d∈ODW,qfr d:=by
 intro d hd
 unfold ODW at hd
 simp only [ac,aO,or_false] at hd
 rcases hd with rfl | rfl | rfl | rfl | rfl | rfl | rfl | rfl | rfl | rfl | rfl | rfl | rfl | rfl | rfl <;> (unfold qfr; kernel_rfl)
theorem qdD:∀ d∈ODL,qfs d:=by
 intro d hd
 unfold ODL at hd
 simp only [ac,aO,or_false] at hd
 rcases hd with rfl | rfl | rfl | rfl | rfl | rfl | rfl | rfl | rfl | rfl | rfl | rfl | rfl <;> (unfold qfs; kernel_rfl)
theorem VR (ns:List Int) (town:List D) (ht:town.length < 900):∃ d,qfr d/\uo [scr ns,.lst town]=.ok (d,[.non,.lst (town++[.int 0])]):=by
 obtain ⟨d,hd,g⟩:=xQ ns town ODW (by simp [ODW]) (by omega)
 refine ⟨d,qdC d hd,?_⟩
 refine runD_ap.trans ?_
 have z12:12<=sizeLine:=qR (by omega)
 have z2:2<=sizeLine:=qR (by omega)
 have z3:3<=sizeLine:=qR (by omega)
 have z15:15<=sizeLine:=qR (by omega)
 unfold ODW at g
 simp [um,qu,qv,qC,qS,z12,z2,z3,z15,WD,kI,g]
theorem Uk (ns:List Int) (town:List D) (ht:town.length < 900):∃ d,qfs d/\yq [scr ns,.lst town]=.ok (d,[.non,.lst (town++[.int 0])]):=by
 obtain ⟨d,hd,g⟩:=xQ ns town ODL (by simp [ODL]) (by omega)
 refine ⟨d,qdD d hd,?_⟩
 refine runD_ap.trans ?_
 have z13:13<=sizeLine:=qR (by omega)
 unfold ODL at g
 simp [yp,qu,qv,qC,qS,z13,g]
abbrev ref (k:Int):D:=.tup [.str "refused",.int k]
abbrev Pr:=Str×Str
abbrev Wk:=List Nat
noncomputable def inL (l:Wk):List D:=l.map fun (k:Nat)=>.int (k:Nat)
abbrev lD (l:Wk):D:=.lst (inL l)
abbrev nD (ns:List Int):D:=.tup (ns.map D.int)
abbrev pD (p:Pr):D:=.tup [.str p.1,.str p.2]
noncomputable def nI (ns:List Int) (k:Nat):Int:=(ns[k]?).getD 0
variable {ns:List Int}
theorem qft {k:Nat} (h:k < ns.length):ixD (nD ns) (.int (k:Nat))=.ok (.int (nI ns k)):=by
 unfold ixD nI
 simp only []
 rw [ud,aH,aG h]
 rfl
noncomputable def xV (ns:List Int) (t:Int) (l:Wk):Int:=l.foldl (fun a k=>nI ns k - a) t
def qdV (nd:D) (ns:List Int):Prop:=∀ k:Nat,k < ns.length->ixD nd (.int (k:Nat))=.ok (.int (nI ns k))
theorem qcl (ns:List Int):qdV (nD ns) ns:=fun _ h=>qft h
theorem Jc {nd:D} {ns:List Int} (hnd:qdV nd ns) {a s:Option D}:∀ (l:Wk) (t:Int) (x:Option D),(∀ k∈l,k < ns.length)->∃ x',wY (gNm 4) (ka 3 (d2 gc (d2 ixD (ql 1) (ql 4)) (ql 3))) (inL l) [a,some nd,s,some (.int t),x]=.ok (.nx,[a,some nd,s,some (.int (xV ns t l)),x'])
 | [],t,x,_=>⟨x,rfl⟩
 | k::l,t,x,h=>by
  have hk:=hnd k (h k (aw ..))
  obtain ⟨x',e⟩:=Jc hnd (a:=a) (s:=s) l (nI ns k - t) (some (.int (k:Nat))) fun j hj=>h j (ae _ hj)
  refine ⟨x',?_⟩
  have e0:xV ns t (k::l)=xV ns (nI ns k - t) l:=rfl
  rw [e0,<-e]
  simp [inL,wY,hk,gc,wZ]
variable {nd:D}
theorem Qk (hnd:qdV nd ns) {l:Wk} (h:∀ k∈l,k < ns.length) (t:Int):uR [lD l,nd,.int t]=.ok (.int (xV ns t l),[.non,.non,.non]):=by
 obtain ⟨x',e⟩:=Jc hnd (a:=some (lD l)) (s:=some (.int t)) l t none h
 refine runD_ap.trans ?_
 unfold xJ
 rw [show qu xI [lD l,nd,.int t]=[some (lD l),some nd,some (.int t),none,none] from rfl]
 refine (qH (ρ1:=[some (lD l),some nd,some (.int t),some (.int t),none]) (by simp)).trans ?_
 refine (qH (ρ1:=[some (lD l),some nd,some (.int t),some (.int (xV ns t l)),x']) (by rw [ul]; exact e)).trans ?_
 simp [qv]
noncomputable def odd (l:Wk):Bool:=decide (l.length % 2=1)
theorem Ql (l:Wk):wK [lD l]=.ok (.bl (odd l),[.non]):=by
 refine runD_ap.trans ?_
 have h:((inL l).length:Int) % 2=((l.length % 2:Nat):Int):=by simp [inL]
 by_cases q:l.length % 2=1
 ·simp [zN,qu,kt,xo,wZ,eqD,eqN,eqS,qv,h,odd,q]
 ·have q':¬((l.length % 2:Nat):Int)=1:=by omega
  simp [zN,qu,kt,xo,wZ,eqD,eqN,eqS,qv,h,odd,q,q']
  omega
noncomputable def qdW (l:Wk) (r:Int) (ns:List Int):Bool:=if odd l=true then decide (r % 2=0)&&decide (xV ns 0 l % 2=1) else !decide (xV ns 0 l % r=0)
theorem qdE (hnd:qdV nd ns) {l:Wk} (h:∀ k∈l,k < ns.length) (hr:1<=r):Yo [lD l,.int r,nd]=.ok (.bl (qdW l r ns),[.non,.non,.non]):=by
 have h1:=Qk hnd h 0
 have h2:=Ql l
 have hr':0 < r:=by omega
 refine runD_ap.trans ?_
 unfold qdW
 generalize xV ns 0 l=t at h1
 cases q:odd l with
 | true=>
  rw [q] at h2
  by_cases e1:r % 2=0 <;> simp [Yn,qu,qC,qS,h1,h2,wm,xo,wZ,eqD,eqN,eqS,qv,e1] <;> rfl
 | false=>
  rw [q] at h2
  simp [Yn,qu,qC,qS,h1,h2,wm,xo,wZ,neD,eqN,eqS,qv,hr']
  rfl
abbrev Wy:=List (Str×Str×Wk)
noncomputable def wD (W:Wy):List (Key×D):=W.map fun e=>(.inr e.1,.tup [.str e.2.1,lD e.2.2])
noncomputable def kW (W:Wy):List Str:=W.map (·.1)
theorem qcm (W:Wy) (x:Str):qbb (wD W) (.inr x)=decide (x∈kW W):=by
 unfold qbb wD kW
 induction W with
 | nil=>rfl
 | cons e W ih=>
  rw [aF,cG,ih]
  by_cases h:e.1=x
  ·subst h; simp
  ·have h2:¬(bp e.1:Key)=bp x:=fun z=>h (bp.inj z)
   have h3:¬x=e.1:=fun z=>h z.symm
   simp [h2,h3]
variable {W:Wy}
theorem qcn {r:Str} {l:Wk} (h:x∉kW W):Wu (wD W) (.inr x) (.tup [.str r,lD l])=wD (W++[(x,r,l)]):=by
 unfold Wu
 have h1:((wD W).any fun p=>decide (p.1=(bp x:Key)))=false:=by
  have:=qcm W x
  unfold qbb at this
  rw [this]
  exact decide_eq_false h
 rw [h1,if_neg aY]
 unfold wD
 rw [dO]
 rfl
theorem qdF:∀ {W:Wy} {e:Str×Str×Wk},(kW W).Nodup->e∈W->ixD (.dct (wD W)) (.str e.1)=.ok (.tup [.str e.2.1,lD e.2.2])
 | [],e,_,h=>by cases h
 | a::W,e,hn,h=>by
  have hn2:=aL.mp (show (a.1::kW W).Nodup from hn)
  rcases ac.mp h with rfl | h
  ·simp [ixD,wD]
  ·have hne:a.1≠e.1:=fun z=>hn2.1 (by rw [z]; exact ay.mpr ⟨e,h,rfl⟩)
   have ih:=qdF hn2.2 h
   unfold ixD at ih ⊢
   simp only [wD,aF] at ih ⊢
   have h2:¬(bp a.1:Key)=bp e.1:=fun z=>hne (bp.inj z)
   rw [bL (by simpa using h2)]
   exact ih
inductive Path (seen:List Pr) (r:Str):Wk->Str->Prop
 | nil:Path seen r [] r
 | snoc {l:Wk} {x y:Str} {k:Nat} {p:Pr}:Path seen r l x->seen[k]?=some p->(p=(x,y)\/p=(y,x))->Path seen r (l++[k]) y
variable {seen:List Pr}
theorem Path.lt {r:Str} {l:Wk} (h:Path seen r l x):∀ k∈l,k < seen.length:=by
 induction h with
 | nil=>simp
 | snoc _ e _ ih=>
  intro k hk
  rcases ai.mp hk with hk | hk
  ·exact ih k hk
  ·rw [ax.mp hk]
   exact (au.mp e).1
structure WI (seen:List Pr) (W:Wy):Prop where
 nd:(kW W).Nodup
 sub:∀ x∈kW W,x∈LS seen
 path:∀ e∈W,Path seen e.2.1 e.2.2 e.1
 len:∀ e∈W,e.2.2.length < W.length
theorem wl (W V:Wy):kW (W++V)=kW W++kW V:=by simp [kW]
theorem WI.add (h:WI seen W) {r:Str} {l:Wk} (hx:x∉kW W) (hm:x∈LS seen) (hp:Path seen r l x) (hl:l.length<=W.length):WI seen (W++[(x,r,l)]) where
 nd:=by
  rw [wl]
  refine c8.mpr ⟨h.nd,by simp [kW],fun a ha b hb=>?_⟩
  rw [show kW [(x,r,l)]=[x] from rfl] at hb
  rw [ax.mp hb]
  exact fun z=>hx (z ▸ ha)
 sub:=fun y hy=>by
  rw [wl] at hy
  rcases ai.mp hy with hy | hy
  ·exact h.sub y hy
  ·rw [show y=x from ax.mp hy]; exact hm
 path:=fun e he=>by
  rcases ai.mp he with he | he
  ·exact h.path e he
  ·rw [ax.mp he]; exact hp
 len:=fun e he=>by
  rw [af]
  rcases ai.mp he with he | he
  ·have:=h.len e he; simp; omega
  ·rw [ax.mp he]; simp; omega
theorem GV:∀ {a b:List Str},a.Nodup->(∀ x∈a,x∈b)->a.length<=b.length
 | [],b,_,_=>bB _
 | x::a,b,hn,h=>by
  have hn2:=aL.mp hn
  have hx:=h x (aw ..)
  have ih:=GV (b:=b.erase x) hn2.2 fun y hy=>(List.mem_erase_of_ne (fun z=>hn2.1 (by rw [<-z]; exact hy))).mpr (h y (ae _ hy))
  rw [List.length_erase_of_mem hx] at ih
  have:=List.length_pos_of_mem hx
  rw [aq]
  omega
theorem WI.le (h:WI seen W):W.length<=(LS seen).length:=by
 have:=GV h.nd h.sub
 simpa [kW] using this
noncomputable def oth (p:Pr) (x:Str):Str:=if x=p.1 then p.2 else p.1
theorem qbM (p:Pr) (x:Str):kA [pD p,.str x]=.ok (.str (oth p x),[.non,.non]):=by
 refine runD_ap.trans ?_
 unfold oth
 by_cases h:x=p.1 <;> simp [vU,qu,qv,ixD,at0,at1,eqD,eqN,eqS,h]
theorem qdG (p:Pr) (x:Str):inA (.str x) (pD p)=.ok (.bl (decide (x=p.1\/x=p.2))):=by
 have h:=xh x [p.1,p.2]
 simp only [aF,bK] at h
 show (inD (.str x) (pD p)).bind (fun b=>Out.ok (D.bl b))=_
 unfold inD
 simp only [h]
 simp
theorem Yv (W:Wy) (x:Str):Jq (.str x) (.dct (wD W))=.ok (.bl (!decide (x∈kW W))):=by
 unfold Jq
 simp only [Kq]
 rw [qcm]
theorem qfu {p:Pr} (hp:p∈seen) (x:Str):oth p x∈LS seen:=by
 rw [mem_LS]
 refine ⟨p,hp,?_⟩
 unfold oth
 split
 ·exact .inr rfl
 ·exact .inl rfl
abbrev spB:Sl->Out (Fl×Sl):=(qZ (ka 7 (qx [.vl,.vl] kA (qd (ql 6) (qd (ql 4) qE))))
  (sIf (qcQ (jl (d2 inA (ql 4) (ql 6))) (jl (d2 Jq (ql 7) (ql 2)))) (qZ (JA 2 (ua (qd (ql 1) (qd (d2 kI (d2 ixD (d2O 2 ixD (ql 4)) (dC (.int 1))) (wt (qd (ql 5) qE))) qE))) (ql 7))
  (vd (Kp 3 Qq (ql 7)))) jt))
theorem qfv {f g:Sl->Out (Fl×Sl)} (h:f ρ=.ok (.nx,ρ1)):qZ f g ρ=g ρ1:=by
 rw [WC,h]
 rfl
variable {g:D->Sl->Out Sl} {fb:Sl->Out (Fl×Sl)} {ρ2:Sl}
theorem xm (h1:g d ρ=.ok ρ1) (h2:fb ρ1=.ok (.nx,ρ2)):wY g fb (d::ds) ρ=wY g fb ds ρ2:=by
 rw [wY,h1]
 simp only [Out.plain,vt]
 rw [h2]
 rfl
theorem qfw {v:D} (h1:g d ρ=.ok ρ1) (h2:fb ρ1=.ok (.rt v,ρ2)):wY g fb (d::ds) ρ=.ok (.rt v,ρ2):=by
 rw [wY,h1]
 simp only [Out.plain,vt]
 rw [h2]
 rfl
variable {root:Str} {ly:Wk}
theorem qdH (hs:(LS seen).length<=20) (hW:WI seen W) (hy:(y,root,ly)∈W) {k:Nat} {p:Pr} (hk:seen[k]?=some p) (Q:List Str) (hQ:Q.length<=1000) (sd x7:Option D) :
  ∃ (M:Wy) (rch:Option D),WI seen (W++M)/\(∀ e∈M,e.2.1=root)/\M.length<=1/\((y=p.1\/y=p.2)->oth p y∈kW (W++M)) /\
   spB [sd,some (.str root),some (.dct (wD W)),some (.lst (Q.map D.str)),some (.str y),some (.int (k:Nat)),some (pD p),x7]=.ok (.nx,[sd,some (.str root),some (.dct (wD (W++M))),some (.lst ((Q++kW M).map D.str)),some (.str y),some (.int (k:Nat)),some (pD p),rch]):=by
 have h1:=qbM p y
 have h2:=qdG p y
 have h3:=Yv W (oth p y)
 have hle:=hW.le
 have hbg:=big
 have hll:=hW.len _ hy
 have hpm:p∈seen:=cA hk
 by_cases q:(y=p.1\/y=p.2)/\oth p y∉kW W
 ·refine ⟨[(oth p y,root,ly++[k])],some (.str (oth p y)),hW.add q.2 (qfu hpm y) (.snoc (hW.path _ hy) hk ?_) (by rw [af]; simp; simp at hll; omega),by simp,by simp,fun _=>by rw [wl]; exact ai.mpr (.inr (by simp [kW])),?_⟩
  ·obtain ⟨p1,p2⟩:=p
   unfold oth
   rcases q.1 with e | e
   ·have e:y=p1:=e
    subst e
    simp
   ·have e:y=p2:=e
    subst e
    by_cases z:y=p1
    ·subst z; simp
    ·simp [z]
  ·unfold spB
   rw [qfv (ρ1:=[sd,some (.str root),some (.dct (wD W)),some (.lst (Q.map D.str)),some (.str y),some (.int (k:Nat)),some (pD p),some (.str (oth p y))]) (by simp [qC,qS,h1])]
   have hb1:decide (y=p.1\/y=p.2)=true:=decide_eq_true q.1
   have hb2:(!decide (oth p y∈kW W))=true:=by rw [decide_eq_false q.2]; rfl
   rw [hb1] at h2
   rw [hb2] at h3
   have hix:=qdF hW.nd hy
   simp only [] at hix
   have hix2:ixD (.tup [.str root,lD ly]) (.int 1)=.ok (lD ly):=by simp [ixD,at1]
   have hput:=qcn (W:=W) (x:=oth p y) (r:=root) (l:=ly++[k]) q.2
   have hl:(inL ly).length+1<=sizeLine:=by simp [inL]; simp at hll; omega
   have z1:1<=sizeLine:=by omega
   have z2:2<=sizeLine:=by omega
   have hwl:(wD W).length < sizeLine:=by simp [wD]; omega
   have hql:Q.length < sizeLine:=by omega
   have hin:inL ly++[.int (k:Nat)]=inL (ly++[k]):=by simp [inL]
   rw [Vr,show qcQ (jl (d2 inA (ql 4) (ql 6))) (jl (d2 Jq (ql 7) (ql 2))) [sd,some (.str root),some (.dct (wD W)),some (.lst (Q.map D.str)),some (.str y),some (.int (k:Nat)),some (pD p),some (.str (oth p y))]=.ok (true,[sd,some (.str root),some (.dct (wD W)),some (.lst (Q.map D.str)),some (.str y),some (.int (k:Nat)),some (pD p),some (.str (oth p y))]) by simp [h2,h3]]
   simp only [vt,if_true]
   rw [qfv (ρ1:=[sd,some (.str root),some (.dct (wD (W++[(oth p y,root,ly++[k])]))),some (.lst (Q.map D.str)),some (.str y),some (.int (k:Nat)),some (pD p),some (.str (oth p y))]) (by
    simp [JA,d2O,hix,hix2,kI,z1,z2,hl,hin,Kq,hwl,hput])]
   simp [uh,Qq,hql,kW]
 ·refine ⟨[],some (.str (oth p y)),by simpa using hW,by simp,by simp,fun z=>?_,?_⟩
  ·rw [bf]
   exact bv fun w=>q ⟨z,w⟩
  ·unfold spB
   rw [qfv (ρ1:=[sd,some (.str root),some (.dct (wD W)),some (.lst (Q.map D.str)),some (.str y),some (.int (k:Nat)),some (pD p),some (.str (oth p y))]) (by simp [qC,qS,h1])]
   by_cases z:y=p.1\/y=p.2
   ·have hb1:decide (y=p.1\/y=p.2)=true:=decide_eq_true z
    have hm:oth p y∈kW W:=bv fun w=>q ⟨z,w⟩
    have hb2:(!decide (oth p y∈kW W))=false:=by rw [decide_eq_true hm]; rfl
    rw [hb1] at h2
    rw [hb2] at h3
    simp [h2,h3,kW]
   ·have hb1:decide (y=p.1\/y=p.2)=false:=decide_eq_false z
    rw [hb1] at h2
    simp [h2,kW]
noncomputable def en (k0:Nat) (rest:List Pr):List D:=(rest.zipIdx k0).map fun p=>.tup [.int (p.2:Nat),pD p.1]
theorem qfx (seen:List Pr):Jy (kG seen)=en 0 seen:=by
 unfold Jy en kG
 rw [List.zipIdx_map,cW]
 rfl
theorem qco (hs:(LS seen).length<=20) (sd:Option D):∀ (rest:List Pr) (k0:Nat) (W:Wy) (Q:List Str) (x5 x6 x7:Option D),seen.drop k0=rest->WI seen W->(y,root,ly)∈W->Q.length+rest.length<=500 ->
  ∃ (M:Wy) (y5 y6 y7:Option D),WI seen (W++M)/\(∀ e∈M,e.2.1=root)/\(∀ p∈rest,(y=p.1\/y=p.2)->oth p y∈kW (W++M))/\M.length<=rest.length /\
   wY (ko 2 (qG (gNm 5) (qG (gNm 6) kn))) spB (en k0 rest) [sd,some (.str root),some (.dct (wD W)),some (.lst (Q.map D.str)),some (.str y),x5,x6,x7]=.ok (.nx,[sd,some (.str root),some (.dct (wD (W++M))),some (.lst ((Q++kW M).map D.str)),some (.str y),y5,y6,y7])
 | [],k0,W,Q,x5,x6,x7,_,hW,_,_=>⟨[],x5,x6,x7,by simpa using hW,by simp,by simp,by simp,by simp [en,wY,kW]⟩
 | p::rest,k0,W,Q,x5,x6,x7,hd,hW,hy,hQ=>by
  rw [aq] at hQ
  have hk:seen[k0]?=some p:=by
   have:=congrArg List.head? hd
   rw [List.head?_drop] at this
   simpa using this
  have hd2:seen.drop (k0+1)=rest:=by
   have:=congrArg List.tail hd
   rw [List.tail_drop] at this
   simpa using this
  obtain ⟨M1,r1,a1,a2,a3,a4,a5⟩:=qdH hs hW hy hk Q (by omega) sd x7
  have hm1:(kW M1).length<=1:=by simpa [kW] using a3
  obtain ⟨M2,y5,y6,y7,b1,b2,b3,b4,b5⟩:=qco hs sd rest (k0+1) (W++M1) (Q++kW M1) (some (.int (k0:Nat))) (some (pD p)) r1 hd2 a1 (ai.mpr (.inl hy)) (by rw [af]; omega)
  refine ⟨M1++M2,y5,y6,y7,by rw [<-aI]; exact b1,fun e he=>?_,fun p' hp' hz=>?_,by rw [af,aq]; omega,?_⟩
  ·rcases ai.mp he with he | he
   ·exact a2 e he
   ·exact b2 e he
  ·rw [<-aI,wl]
   rcases ac.mp hp' with rfl | hp'
   ·exact ai.mpr (.inl (a4 hz))
   ·have:=b3 p' hp' hz
    rw [wl] at this
    exact this
  ·rw [wl,<-aI,<-aI]
   refine cZ ?_ b5
   have e0:en k0 (p::rest)=.tup [.int (k0:Nat),pD p]::en (k0+1) rest:=by simp [en,eJ]
   rw [e0]
   exact xm rfl a5
theorem qbN (h1:ft ρ=.ok (true,ρ1)) (h2:fb ρ1=.ok (.nx,ρ2)):kq ft fb (n+1) ρ=kq ft fb n ρ2:=by
 rw [kq,h1]
 simp only [vt,if_true]
 rw [h2]
 rfl
theorem GW (h1:ft ρ=.ok (false,ρ1)):kq ft fb (n+1) ρ=.ok (.nx,ρ1):=by
 rw [kq,h1]
 rfl
abbrev spC:Sl->Out (Bool×Sl):=jl (d2 gtD (d1 kt (ql 3)) (dC (.int 0)))
abbrev spW:Sl->Out (Fl×Sl):=(qZ (ka 4 (Gm 3)) (Wp (YY (ql 0)) (ko 2 (qG (gNm 5) (qG (gNm 6) kn))) spB))
abbrev sD (seen:List Pr):D:=.lst (kG seen)
theorem Yw (hn:seen.length<=10) (hs:(LS seen).length<=20) (root:Str):∀ (n:Nat) (W:Wy) (Q:List Str) (x4 x5 x6 x7:Option D),n<=100->WI seen W->(∀ x∈Q,∃ l,(x,root,l)∈W)->Q.length+((LS seen).length - W.length) < n ->
  ∃ (M:Wy) (y4 y5 y6 y7:Option D),WI seen (W++M)/\(∀ e∈M,e.2.1=root)/\(∀ x,x∈Q\/x∈kW M->∀ p∈seen,(x=p.1\/x=p.2)->oth p x∈kW (W++M)) /\
   kq spC spW n [some (sD seen),some (.str root),some (.dct (wD W)),some (.lst (Q.map D.str)),x4,x5,x6,x7]=.ok (.nx,[some (sD seen),some (.str root),some (.dct (wD (W++M))),some (.lst []),y4,y5,y6,y7])
 | 0,W,Q,x4,x5,x6,x7,_,_,_,h=>absurd h (Nat.not_lt_zero _)
 | n+1,W,[],x4,x5,x6,x7,_,hW,_,_=>⟨[],x4,x5,x6,x7,by simpa using hW,by simp,by simp [kW],by
  rw [bf]
  exact GW (by simp [kt,gtD,wZ])⟩
 | n+1,W,y::Q,x4,x5,x6,x7,h100,hW,hQ,hm=>by
  obtain ⟨ly,hy⟩:=hQ y (aw ..)
  rw [aq] at hm
  obtain ⟨M1,y5,y6,y7,a1,a2,a3,a4,a5⟩:=qco hs (some (sD seen)) seen 0 W Q x5 x6 x7 (by simp) hW hy (by omega)
  have hle:=a1.le
  rw [af] at hle
  obtain ⟨M2,z4,z5,z6,z7,b1,b2,b3,b4⟩:=Yw hn hs root n (W++M1) (Q++kW M1) (some (.str y)) y5 y6 y7 (by omega) a1 (fun x hx=>by
   rcases ai.mp hx with hx | hx
   ·obtain ⟨l,hl⟩:=hQ x (ae _ hx)
    exact ⟨l,ai.mpr (.inl hl)⟩
   ·obtain ⟨e,he,rfl⟩:=ay.mp hx
    refine ⟨e.2.2,ai.mpr (.inr ?_)⟩
    rw [<-a2 e he]
    exact he) (by
   rw [af,af,show (kW M1).length=M1.length by simp [kW]]
   omega)
  refine ⟨M1++M2,z4,z5,z6,z7,by rw [<-aI]; exact b1,fun e he=>?_,fun x hx p hp hz=>?_,?_⟩
  ·rcases ai.mp he with he | he
   ·exact a2 e he
   ·exact b2 e he
  ·rw [<-aI]
   by_cases q:x=y
   ·subst q
    rw [wl]
    exact ai.mpr (.inl (a3 p hp hz))
   ·refine b3 x ?_ p hp hz
    rcases hx with hx | hx
    ·rcases ac.mp hx with e | hx
     ·exact absurd e q
     ·exact .inl (ai.mpr (.inl hx))
    ·rw [wl] at hx
     rcases ai.mp hx with hx | hx
     ·exact .inl (ai.mpr (.inr hx))
     ·exact .inr hx
  ·rw [<-aI]
   refine cZ ?_ b4
   refine qbN (ρ1:=[some (sD seen),some (.str root),some (.dct (wD W)),some (.lst ((y::Q).map D.str)),x4,x5,x6,x7]) (by
    have:(0:Int) < (Q.length:Int)+1:=by omega
    simp [kt,gtD,wZ,this]) ?_
   unfold spW
   rw [qfv (ρ1:=[some (sD seen),some (.str root),some (.dct (wD W)),some (.lst (Q.map D.str)),some (.str y),x5,x6,x7]) (by simp [Gm])]
   rw [ul,show YY (ql 0) [some (sD seen),some (.str root),some (.dct (wD W)),some (.lst (Q.map D.str)),some (.str y),x5,x6,x7]=.ok (Jy (kG seen),[some (sD seen),some (.str root),some (.dct (wD W)),some (.lst (Q.map D.str)),some (.str y),x5,x6,x7]) from rfl,vt,qfx]
   exact a5
theorem GX (hn:seen.length<=6) (hs:(LS seen).length<=12) (hW:WI seen W) (hr:root∉kW W) (hm:root∈LS seen) :
  ∃ M:Wy,WI seen (W++M)/\(∀ e∈M,e.2.1=root)/\(root,root,[])∈M/\(∀ x∈kW M,∀ p∈seen,(x=p.1\/x=p.2)->oth p x∈kW (W++M))/\zQ [sD seen,.str root,.dct (wD W)]=.ok (.non,[.non,.non,.dct (wD (W++M))]):=by
 have hW1:=hW.add hr hm (r:=root) (l:=[]) .nil (bB _)
 have hle:=hW1.le
 have hle0:=hW.le
 have hbg:=big
 obtain ⟨M,y4,y5,y6,y7,a1,a2,a3,a4⟩:=Yw (by omega) (by omega) root 20 (W++[(root,root,[])]) [root] none none none none (by omega) hW1 (fun x hx=>⟨[],by rw [ax.mp hx]; exact ai.mpr (.inr (ax.mpr rfl))⟩) (by simp; omega)
 rw [aI] at a1 a3 a4
 refine ⟨[(root,root,[])]++M,a1,fun e he=>?_,ai.mpr (.inl (ax.mpr rfl)),fun x hx p hp hz=>a3 x ?_ p hp hz,?_⟩
 ·rcases ai.mp he with he | he
  ·rw [ax.mp he]
  ·exact a2 e he
 ·rw [wl] at hx
  rcases ai.mp hx with hx | hx
  ·exact .inl hx
  ·exact .inr hx
 ·refine runD_ap.trans ?_
  unfold Kc
  rw [show qu Kb [sD seen,.str root,.dct (wD W)]=[some (sD seen),some (.str root),some (.dct (wD W)),none,none,none,none,none] from rfl]
  have hput:=qcn (W:=W) (x:=root) (r:=root) (l:=[]) hr
  rw [show lD []=.lst [] from rfl] at hput
  have z2:2<=sizeLine:=by omega
  have z1:1<=sizeLine:=by omega
  have hwl:(wD W).length < sizeLine:=by simp [wD]; omega
  refine (qH (ρ1:=[some (sD seen),some (.str root),some (.dct (wD (W++[(root,root,[])]))),none,none,none,none,none]) (by simp [JA,z2,Kq,hwl,hput])).trans ?_
  refine (qH (ρ1:=[some (sD seen),some (.str root),some (.dct (wD (W++[(root,root,[])]))),some (.lst [.str root]),none,none,none,none]) (by simp [z1])).trans ?_
  exact (congrArg (ZT [.val,.val,.io]) a4).trans rfl
def CI (seen:List Pr) (W:Wy):Prop:=∀ e∈W,∀ p∈seen,(e.1=p.1\/e.1=p.2)->∃ e'∈W,e'.1=oth p e.1/\e'.2.1=e.2.1
def RI (W:Wy):Prop:=∀ e∈W,(e.2.1,e.2.1,[])∈W
theorem qdI {p:Pr} (h:x=p.1\/x=p.2):oth p (oth p x)=x/\(oth p x=p.1\/oth p x=p.2):=by
 obtain ⟨a,b⟩:=p
 unfold oth
 simp only []
 by_cases q:x=a
 ·subst q
  simp only [if_true]
  by_cases q2:b=x
  ·subst q2; simp
  ·simp [q2]
 ·have:x=b:=by rcases h with h | h; exact absurd h q; exact h
  subst this
  simp [q]
theorem Yx:∀ {W:Wy},(kW W).Nodup->∀ {e e':Str×Str×Wk},e∈W->e'∈W->e.1=e'.1->e=e'
 | [],_,e,e',h,_,_=>by cases h
 | a::W,hn,e,e',h,h',q=>by
  have hn2:=aL.mp (show (a.1::kW W).Nodup from hn)
  rcases ac.mp h with h1 | h1
  ·rcases ac.mp h' with h2 | h2
   ·rw [h1,h2]
   ·exact absurd (show a.1∈kW W from ay.mpr ⟨e',h2,by rw [<-q,h1]⟩) hn2.1
  ·rcases ac.mp h' with h2 | h2
   ·exact absurd (show a.1∈kW W from ay.mpr ⟨e,h1,by rw [q,h2]⟩) hn2.1
   ·exact Yx hn2.2 h1 h2 q
abbrev woB:Sl->Out (Fl×Sl):=(sIf (jl (d2 Jq (ql 2) (ql 1))) (vd (qx [.vl,.vl,.sl 1] zQ (qd (ql 0) (qd (ql 2) (jQ qE))))) jt)
theorem Qm (hn:seen.length<=6) (hs:(LS seen).length<=12):∀ (xs:List Str) (W:Wy) (x:Option D),(∀ x∈xs,x∈LS seen)->WI seen W->CI seen W->RI W ->
  ∃ (M:Wy) (x':Option D),WI seen (W++M)/\CI seen (W++M)/\RI (W++M)/\(∀ x∈xs,x∈kW (W++M))/\wY (gNm 2) woB (xs.map D.str) [some (sD seen),some (.dct (wD W)),x]=.ok (.nx,[some (sD seen),some (.dct (wD (W++M))),x'])
 | [],W,x,_,hW,hC,hR=>⟨[],x,by simpa using hW,by simpa using hC,by simpa using hR,by simp,by simp [wY]⟩
 | y::xs,W,x,hx,hW,hC,hR=>by
  have h3:=Yv W y
  by_cases q:y∈kW W
  ·obtain ⟨M,x',a1,a2,a3,a4,a5⟩:=Qm hn hs xs W (some (.str y)) (fun z hz=>hx z (ae _ hz)) hW hC hR
   refine ⟨M,x',a1,a2,a3,fun z hz=>?_,?_⟩
   ·rcases ac.mp hz with rfl | hz
    ·rw [wl]; exact ai.mpr (.inl q)
    ·exact a4 z hz
   ·refine cZ (xm (ρ1:=[some (sD seen),some (.dct (wD W)),some (.str y)]) rfl ?_) a5
    rw [decide_eq_true q] at h3
    simp [h3]
  ·obtain ⟨M1,b1,b2,b3,b4,b5⟩:=GX hn hs hW q (hx y (aw ..))
   have hR1:RI (W++M1):=fun e he=>by
    rcases ai.mp he with he | he
    ·exact ai.mpr (.inl (hR e he))
    ·rw [b2 e he]
     exact ai.mpr (.inr b3)
   have hC1:CI seen (W++M1):=fun e he p hp hz=>by
    rcases ai.mp he with he | he
    ·obtain ⟨e',h1,h2⟩:=hC e he p hp hz
     exact ⟨e',ai.mpr (.inl h1),h2⟩
    ·have hk:=b4 e.1 (ay.mpr ⟨e,he,rfl⟩) p hp hz
     obtain ⟨e',h1,h2⟩:=ay.mp hk
     refine ⟨e',h1,h2,?_⟩
     rcases ai.mp h1 with h1' | h1'
     ·exfalso
      obtain ⟨o1,o2⟩:=qdI hz
      rw [<-h2] at o1 o2
      obtain ⟨e2,h4,h5,_⟩:=hC e' h1' p hp o2
      rw [o1] at h5
      have:=Yx b1.nd (ai.mpr (.inl h4)) (ai.mpr (.inr he)) h5
      subst this
      have hnd:=b1.nd
      rw [wl] at hnd
      exact (c8.mp hnd).2.2 e2.1 (ay.mpr ⟨e2,h4,rfl⟩) e2.1 (ay.mpr ⟨e2,he,rfl⟩) rfl
     ·rw [b2 e' h1',b2 e he]
   obtain ⟨M2,x',a1,a2,a3,a4,a5⟩:=Qm hn hs xs (W++M1) (some (.str y)) (fun z hz=>hx z (ae _ hz)) b1 hC1 hR1
   rw [aI] at a1 a2 a3 a4 a5
   refine ⟨M1++M2,x',a1,a2,a3,fun z hz=>?_,?_⟩
   ·rcases ac.mp hz with rfl | hz
    ·rw [wl,wl]
     exact ai.mpr (.inr (ai.mpr (.inl (ay.mpr ⟨_,b3,rfl⟩))))
    ·exact a4 z hz
   ·refine cZ (xm (ρ1:=[some (sD seen),some (.dct (wD W)),some (.str y)]) rfl ?_) a5
    rw [decide_eq_false q] at h3
    simp [h3,qC,qS,b5]
theorem Xq (hn:seen.length<=6) (hs:(LS seen).length<=12) :
  ∃ W:Wy,WI seen W/\CI seen W/\RI W/\(∀ x∈LS seen,x∈kW W)/\uz [sD seen]=.ok (.dct (wD W),[.non]):=by
 obtain ⟨W,x',a1,a2,a3,a4,a5⟩:=Qm hn hs (LS seen) [] none (fun _ h=>h) ⟨by simp [kW],by simp [kW],by simp,by simp⟩ (fun e he=>by cases he) (fun e he=>by cases he)
 rw [bP] at a1 a2 a3 a4 a5
 refine ⟨W,a1,a2,a3,a4,?_⟩
 have hlo:=Kk (l:=seen) (by omega)
 refine runD_ap.trans ?_
 unfold gW
 rw [show qu gU [sD seen]=[some (sD seen),none,none] from rfl]
 refine (qH (ρ1:=[some (sD seen),some (.dct []),none]) (by simp)).trans ?_
 refine (qH (ρ1:=[some (sD seen),some (.dct (wD W)),x']) (by
  rw [ul,show vx (qx [.vl] kE (qd (ql 0) qE)) [some (sD seen),some (.dct []),none]=.ok ((LS seen).map D.str,[some (sD seen),some (.dct []),none]) by simp [qC,qS,hlo,kf],vt]
  exact a5)).trans ?_
 simp [qv]
noncomputable def wT (W:Wy) (x:Str):Str×Wk:=((W.find? fun e=>decide (e.1=x)).map (·.2)).getD (⟨#[]⟩,[])
theorem wU (h:x∈kW W):(x,wT W x)∈W:=by
 unfold wT
 cases q:W.find? fun e=>decide (e.1=x) with
 | none=>
  obtain ⟨e,he,rfl⟩:=ay.mp h
  have:=List.find?_eq_none.mp q e he
  simp at this
 | some e=>
  have h1:=cu q
  have h2:e.1=x:=by simpa using List.find?_some q
  rw [<-h2]
  exact h1
theorem Ul (hn:(kW W).Nodup) (h:x∈kW W):ixD (.dct (wD W)) (.str x)=.ok (.tup [.str (wT W x).1,lD (wT W x).2]):=qdF hn (wU h)
theorem qho:ixD (.tup [a,b]) (.int 0)=.ok a:=by simp [ixD,at0]
theorem qhp:ixD (.tup [a,b]) (.int 1)=.ok b:=by simp [ixD,at1]
theorem qdJ (a b:Wk):inL a++inL b=inL (a++b):=by simp [inL]
theorem GY (a:Wk):(inL a).length=a.length:=by simp [inL]
theorem qfy (l:Wk):yS (lD l)=.ok (lD l.reverse):=by simp [yS,inL]
theorem GZ {a b:Wk} (h:a.length+b.length<=2000):kI (lD a) (lD b)=.ok (lD (a++b)):=by
 have hz:(inL a).length+(inL b).length<=sizeLine:=by rw [GY,GY]; exact qR h
 show (if (inL a).length+(inL b).length<=sizeLine then Out.ok (D.lst (inL a++inL b)) else .bad)=_
 rw [if_pos hz,qdJ]
abbrev Ci:=Str×Wk
noncomputable def cd (c:Ci):D:=.tup [.str c.1,lD c.2]
noncomputable def cD (C:List Ci):List D:=C.map cd
noncomputable def qbO (W:Wy) (p:Pr) (k:Nat):Ci:=((wT W p.1).1,(wT W p.1).2++[k]++(wT W p.2).2.reverse)
noncomputable def CL (W:Wy) (k0:Nat) (rest:List Pr):List Ci:=(rest.zipIdx k0).map fun p=>qbO W p.1 p.2
abbrev ciB:Sl->Out (Fl×Sl):=(qZ (ka 5 (d1 yS (d2 ixD (d2 ixD (ql 1) (d2 ixD (ql 4) (dC (.int 1)))) (dC (.int 1)))))
  (vd (Kp 2 Qq (ua (qd (d2 ixD (d2 ixD (ql 1) (d2 ixD (ql 4) (dC (.int 0)))) (dC (.int 0))) (qd (d2 kI (d2 kI (d2 ixD (d2 ixD (ql 1) (d2 ixD (ql 4) (dC (.int 0)))) (dC (.int 1))) (wt (qd (ql 3) qE))) (ql 5)) qE))))))
theorem qdK (hs:(LS seen).length<=20) (hW:WI seen W) {p:Pr} (h1:p.1∈kW W) (h2:p.2∈kW W) {k:Nat} {acc:List D} (ha:acc.length < 1000) (sd x5:Option D) :
  ∃ y5,ciB [sd,some (.dct (wD W)),some (.lst acc),some (.int (k:Nat)),some (pD p),x5]=.ok (.nx,[sd,some (.dct (wD W)),some (.lst (acc++[cd (qbO W p k)])),some (.int (k:Nat)),some (pD p),y5]):=by
 have i1:=Ul hW.nd h1
 have i2:=Ul hW.nd h2
 have l1:=hW.len _ (wU h1)
 have l2:=hW.len _ (wU h2)
 have hle:=hW.le
 have hbg:=big
 simp only [] at l1 l2
 have z1:1<=sizeLine:=by omega
 have z2:2<=sizeLine:=by omega
 have hal:acc.length < sizeLine:=by omega
 have a1:=GZ (a:=(wT W p.1).2) (b:=[k]) (by simp; omega)
 have a2:=GZ (a:=(wT W p.1).2++[k]) (b:=(wT W p.2).2.reverse) (by simp; omega)
 have a1:kI (lD (wT W p.1).2) (.lst [.int (k:Nat)])=.ok (lD ((wT W p.1).2++[k])):=a1
 have r2:=qfy (wT W p.2).2
 refine ⟨some (lD (wT W p.2).2.reverse),?_⟩
 unfold ciB qbO cd
 rw [qfv (ρ1:=[sd,some (.dct (wD W)),some (.lst acc),some (.int (k:Nat)),some (pD p),some (lD (wT W p.2).2.reverse)]) (by simp [qhp,i2,r2])]
 simp [uh,qho,qhp,i1,a1,a2,z1,z2,Qq,hal]
theorem qaa (hs:(LS seen).length<=20) (hW:WI seen W) (sd:Option D):∀ (rest:List Pr) (k0:Nat) (acc:List Ci) (x3 x4 x5:Option D),(∀ p∈rest,p.1∈kW W/\p.2∈kW W)->acc.length+rest.length<=500 ->
  ∃ y3 y4 y5,wY (ko 2 (qG (gNm 3) (qG (gNm 4) kn))) ciB (en k0 rest) [sd,some (.dct (wD W)),some (.lst (cD acc)),x3,x4,x5]=.ok (.nx,[sd,some (.dct (wD W)),some (.lst (cD (acc++CL W k0 rest))),y3,y4,y5])
 | [],k0,acc,x3,x4,x5,_,_=>⟨x3,x4,x5,by simp [en,CL,wY]⟩
 | p::rest,k0,acc,x3,x4,x5,h,hl=>by
  rw [aq] at hl
  obtain ⟨h1,h2⟩:=h p (aw ..)
  obtain ⟨r5,e⟩:=qdK hs hW h1 h2 (k:=k0) (acc:=cD acc) (by simp [cD]; omega) sd x5
  obtain ⟨y3,y4,y5,ih⟩:=qaa hs hW sd rest (k0+1) (acc++[qbO W p k0]) (some (.int (k0:Nat))) (some (pD p)) r5 (fun q hq=>h q (ae _ hq)) (by rw [af]; simp; omega)
  refine ⟨y3,y4,y5,?_⟩
  have e0:en k0 (p::rest)=.tup [.int (k0:Nat),pD p]::en (k0+1) rest:=by simp [en,eJ]
  have e1:acc++CL W k0 (p::rest)=(acc++[qbO W p k0])++CL W (k0+1) rest:=by simp [CL,eJ]
  rw [e0,e1]
  refine cZ (xm rfl e) ?_
  rw [show cD acc++[cd (qbO W p k0)]=cD (acc++[qbO W p k0]) by simp [cD]]
  exact ih
theorem Qn (ha:∀ x∈LS seen,x∈kW W):∀ p∈seen,p.1∈kW W/\p.2∈kW W:=fun p hp=>⟨ha _ (mem_LS.mpr ⟨p,hp,.inl rfl⟩),ha _ (mem_LS.mpr ⟨p,hp,.inr rfl⟩)⟩
theorem Jd (hn:seen.length<=6) (hs:(LS seen).length<=20) (hW:WI seen W) (ha:∀ x∈LS seen,x∈kW W):vK [sD seen,.dct (wD W)]=.ok (.lst (cD (CL W 0 seen)),[.non,.non]):=by
 obtain ⟨y3,y4,y5,e⟩:=qaa hs hW (some (sD seen)) seen 0 [] none none none (Qn ha) (by simp; omega)
 rw [bP] at e
 refine runD_ap.trans ?_
 unfold uB
 rw [show qu uA [sD seen,.dct (wD W)]=[some (sD seen),some (.dct (wD W)),none,none,none,none] from rfl]
 refine (qH (ρ1:=[some (sD seen),some (.dct (wD W)),some (.lst []),none,none,none]) (by simp)).trans ?_
 refine (qH (ρ1:=[some (sD seen),some (.dct (wD W)),some (.lst (cD (CL W 0 seen))),y3,y4,y5]) (by
  rw [ul,show YY (ql 0) [some (sD seen),some (.dct (wD W)),some (.lst []),none,none,none]=.ok (Jy (kG seen),[some (sD seen),some (.dct (wD W)),some (.lst []),none,none,none]) from rfl,vt,qfx]
  exact e)).trans ?_
 simp [qv]
theorem qfz (hW:WI seen W) (ha:∀ x∈LS seen,x∈kW W):∀ c∈CL W 0 seen,∀ k∈c.2,k < seen.length:=by
 intro c hc k hk
 obtain ⟨q,hq,rfl⟩:=ay.mp hc
 obtain ⟨p,j⟩:=q
 have hj:=List.mem_zipIdx hq
 have hp:p∈seen:=by rw [hj.2.2]; exact ci _
 obtain ⟨h1,h2⟩:=Qn ha p hp
 unfold qbO at hk
 simp only [ai,List.mem_reverse,ax] at hk
 rcases hk with (hk | hk) | hk
 ·exact (hW.path _ (wU h1)).lt k hk
 ·have:=hj.2.1
  omega
 ·exact (hW.path _ (wU h2)).lt k hk
noncomputable def fD (F:List Ci):List (Key×D):=F.map fun c=>(.inr c.1,lD c.2)
noncomputable def kF (F:List Ci):List Str:=F.map (·.1)
theorem qcp (F:List Ci) (x:Str):qbb (fD F) (.inr x)=decide (x∈kF F):=by
 unfold qbb fD kF
 induction F with
 | nil=>rfl
 | cons e F ih=>
  rw [aF,cG,ih]
  by_cases h:e.1=x
  ·subst h; simp
  ·have h2:¬(bp e.1:Key)=bp x:=fun z=>h (bp.inj z)
   have h3:¬x=e.1:=fun z=>h z.symm
   simp [h2,h3]
variable {F:List Ci}
theorem qfA {l:Wk} (h:x∉kF F):Wu (fD F) (.inr x) (lD l)=fD (F++[(x,l)]):=by
 unfold Wu
 have h1:((fD F).any fun p=>decide (p.1=(bp x:Key)))=false:=by
  have:=qcp F x
  unfold qbb at this
  rw [this]
  exact decide_eq_false h
 rw [h1,if_neg aY]
 unfold fD
 rw [dO]
 rfl
noncomputable def VZ (F:List Ci) (x:Str):Wk:=((F.find? fun c=>decide (c.1=x)).map (·.2)).getD []
theorem Um:∀ (F:List Ci) (x:Str),(fD F).find? (fun kv=>decide (kv.1=(bp x:Key)))=(F.find? fun c=>decide (c.1=x)).map fun c=>(bp c.1,lD c.2)
 | [],x=>rfl
 | c::F,x=>by
  have ih:=Um F x
  unfold fD at ih ⊢
  rw [aF]
  by_cases h:c.1=x
  ·rw [cg (by simp [h]),cg (by simp [h])]
   rfl
  ·have h2:¬(bp c.1:Key)=bp x:=fun z=>h (bp.inj z)
   rw [bL (by simpa using h2),bL (by simpa using h),ih]
theorem qgU (h:x∈kF F):ixD (.dct (fD F)) (.str x)=.ok (lD (VZ F x)):=by
 unfold ixD VZ
 simp only [Um]
 cases q:F.find? fun c=>decide (c.1=x) with
 | none=>
  obtain ⟨e,he,rfl⟩:=ay.mp h
  have:=List.find?_eq_none.mp q e he
  simp at this
 | some c=>rfl
theorem qfB (F:List Ci) (x:Str):qf4 (fD F) (.inr x) (.lst [])=lD (VZ F x):=by
 unfold qf4 VZ
 rw [Um]
 cases F.find? fun c=>decide (c.1=x) <;> rfl
noncomputable def FO:List Ci->List Ci->List Ci
 | F,[]=>F
 | F,c::C=>FO (if odd c.2=true/\c.1∉kF F then F++[c] else F) C
theorem Yy:∀ (C F:List Ci),(∀ c∈FO F C,c∈F\/c∈C)/\(∀ x∈kF F,x∈kF (FO F C))/\(∀ c∈C,odd c.2=true->c.1∈kF (FO F C))/\(FO F C).length<=F.length+C.length
 | [],F=>⟨fun c h=>.inl h,fun x h=>h,by simp,by simp [FO]⟩
 | c::C,F=>by
  unfold FO
  by_cases q:odd c.2=true/\c.1∉kF F
  ·rw [if_pos q]
   obtain ⟨a,b,d,e⟩:=Yy C (F++[c])
   refine ⟨fun y hy=>?_,fun x hx=>b x (by simp [kF] at hx ⊢; exact .inl hx),fun y hy ho=>?_,by rw [af] at e; simp at e ⊢; omega⟩
   ·rcases a y hy with h | h
    ·rcases ai.mp h with h | h
     ·exact .inl h
     ·exact .inr (by rw [ax.mp h]; exact aw ..)
    ·exact .inr (ae _ h)
   ·rcases ac.mp hy with rfl | hy
    ·exact b _ (by simp [kF])
    ·exact d y hy ho
  ·rw [if_neg q]
   obtain ⟨a,b,d,e⟩:=Yy C F
   refine ⟨fun y hy=>?_,b,fun y hy ho=>?_,by simp at e ⊢; omega⟩
   ·rcases a y hy with h | h
    ·exact .inl h
    ·exact .inr (ae _ h)
   ·rcases ac.mp hy with rfl | hy
    ·exact b _ (bv fun w=>q ⟨ho,w⟩)
    ·exact d y hy ho
abbrev foB:Sl->Out (Fl×Sl):=(sIf (qcQ (xZ (qx [.vl] wK (qd (ql 3) qE))) (jl (d2 Jq (ql 2) (ql 1)))) (JA 1 (ql 3) (ql 2)) jt)
theorem qfC (F:List Ci) (x:Str):Jq (.str x) (.dct (fD F))=.ok (.bl (!decide (x∈kF F))):=by
 unfold Jq
 simp only [Kq]
 rw [qcp]
theorem Uo (cd0:Option D):∀ (C F:List Ci) (x2 x3:Option D),F.length+C.length<=500->∃ y2 y3,wY (ko 2 (qG (gNm 2) (qG (gNm 3) kn))) foB (cD C) [cd0,some (.dct (fD F)),x2,x3]=.ok (.nx,[cd0,some (.dct (fD (FO F C))),y2,y3])
 | [],F,x2,x3,_=>⟨x2,x3,rfl⟩
 | c::C,F,x2,x3,hl=>by
  rw [aq] at hl
  have h1:=Ql c.2
  have h2:=qfC F c.1
  have hwl:(fD F).length < sizeLine:=aD (by simp [fD]; omega) big
  unfold FO
  by_cases q:odd c.2=true/\c.1∉kF F
  ·rw [if_pos q]
   obtain ⟨y2,y3,ih⟩:=Uo cd0 C (F++[c]) (some (.str c.1)) (some (lD c.2)) (by rw [af]; simp; omega)
   refine ⟨y2,y3,cZ (xm (d:=cd c) (ρ1:=[cd0,some (.dct (fD F)),some (.str c.1),some (lD c.2)]) rfl ?_) ih⟩
   rw [q.1] at h1
   rw [decide_eq_false q.2] at h2
   have hp:=qfA (F:=F) (x:=c.1) (l:=c.2) q.2
   simp [qC,qS,h1,wm,h2,JA,Kq,hwl,hp]
  ·rw [if_neg q]
   obtain ⟨y2,y3,ih⟩:=Uo cd0 C F (some (.str c.1)) (some (lD c.2)) (by omega)
   refine ⟨y2,y3,cZ (xm (d:=cd c) (ρ1:=[cd0,some (.dct (fD F)),some (.str c.1),some (lD c.2)]) rfl ?_) ih⟩
   cases q1:odd c.2 with
   | false=>
    rw [q1] at h1
    simp [qC,qS,h1,wm]
   | true=>
    rw [q1] at h1
    have:c.1∈kF F:=bv fun w=>q ⟨q1,w⟩
    rw [decide_eq_true this] at h2
    simp [qC,qS,h1,wm,h2]
theorem Yz (C:List Ci) (hl:C.length<=400):wO [.lst (cD C)]=.ok (.dct (fD (FO [] C)),[.non]):=by
 obtain ⟨y2,y3,e⟩:=Uo (some (.lst (cD C))) C [] none none (by simp; omega)
 refine runD_ap.trans ?_
 unfold yu
 rw [show qu yt [.lst (cD C)]=[some (.lst (cD C)),none,none,none] from rfl]
 refine (qH (ρ1:=[some (.lst (cD C)),some (.dct []),none,none]) (by simp)).trans ?_
 refine (qH (ρ1:=[some (.lst (cD C)),some (.dct (fD (FO [] C))),y2,y3]) (by
  rw [ul,show vx (ql 0) [some (.lst (cD C)),some (.dct []),none,none]=.ok (cD C,[some (.lst (cD C)),some (.dct []),none,none]) from rfl,vt]
  exact e)).trans ?_
 simp [qv]
noncomputable def JN (F C:List Ci):List Ci:=(C.filter fun c=>odd c.2).map fun c=>(c.1,VZ F c.1++c.2)
abbrev joT:Sl->Out (Bool×Sl):=xZ (qx [.vl] wK (qd (ql 1) qE))
abbrev joE:Sl->Out (D×Sl):=ua (qd (ql 0) (qd (d2 kI (d2 ixD (ql 2) (ql 0)) (ql 1)) qE))
theorem qab (hF:∀ c∈F,c.2.length<=100):∀ (C:List Ci) (x y:Option D),(∀ c∈C,c.2.length<=100)->(∀ c∈C,odd c.2=true->c.1∈kF F) ->
  ∃ x' y',jS (ko 2 (qG (gNm 0) (qG (gNm 1) kn))) joT joE (cD C) [x,y,some (.dct (fD F))]=.ok (cD (JN F C),[x',y',some (.dct (fD F))])
 | [],x,y,_,_=>⟨x,y,rfl⟩
 | c::C,x,y,hl,hk=>by
  obtain ⟨x',y',ih⟩:=qab hF C (some (.str c.1)) (some (lD c.2)) (fun d hd=>hl d (ae _ hd)) fun d hd=>hk d (ae _ hd)
  refine ⟨x',y',?_⟩
  have h1:=Ql c.2
  have z2:2<=sizeLine:=qR (by omega)
  have e0:cD (c::C)=.tup [.str c.1,lD c.2]::cD C:=rfl
  cases q:odd c.2 with
  | false=>
   rw [q] at h1
   have e1:JN F (c::C)=JN F C:=by simp [JN,q]
   rw [e0,e1]
   simp [jS,gh,ko,qG,kn,qC,qS,h1,wm,ih]
  | true=>
   rw [q] at h1
   have e1:JN F (c::C)=(c.1,VZ F c.1++c.2)::JN F C:=by simp [JN,q]
   have hm:=hk c (aw ..) q
   have i1:=qgU hm
   have hg:(VZ F c.1).length<=100:=by
    unfold VZ
    cases w:F.find? fun d=>decide (d.1=c.1) with
    | none=>simp
    | some d=>exact hF d (cu w)
   have hcl:=hl c (aw ..)
   have a1:=GZ (a:=VZ F c.1) (b:=c.2) (by omega)
   rw [e0,e1]
   simp [jS,gh,ko,qG,kn,qC,qS,h1,wm,i1,a1,z2,ih]
   simp [cD,cd]
theorem YA {nt:Nat} {es:List D} (h:fi ρ=.ok (ds,ρ1)) (hl:ds.length<=sizeLine) (hc:jS g ft fe ds (kO nt cap ρ1)=.ok (es,ρ2)):jw own nt cap fi g ft fe ρ=.ok (.lst es,jR own ρ2 nt cap ρ1):=by
 unfold jw
 rw [h]
 simp only [vt]
 rw [if_pos hl,hc]
 rfl
abbrev baB:Sl->Out (Fl×Sl):=(sIf (xZ (qx [.vl,.vl,.vl] Yo (qd (ql 7) (qd (ql 1) (qd (ql 2) qE))))) (jI (ua (qd (ql 6) (qd (ql 7) qE)))) jt)
theorem qac (hnd:qdV nd ns) (hr:1<=r) (a b c d:Option D):∀ (L:List Ci) (x y:Option D),(∀ w∈L,∀ k∈w.2,k < ns.length)->∃ ρ,wY (ko 2 (qG (gNm 6) (qG (gNm 7) kn))) baB (cD L) [a,some (.int r),some nd,b,c,d,x,y]=.ok (match L.find? fun w=>qdW w.2 r ns with | some w=>.rt (cd w) | none=>.nx,ρ)
 | [],x,y,_=>⟨_,rfl⟩
 | w::L,x,y,h=>by
  have h1:=qdE hnd (h w (aw ..)) hr
  have z2:2<=sizeLine:=qR (by omega)
  cases q:qdW w.2 r ns with
  | true=>
   rw [q] at h1
   refine ⟨[a,some (.int r),some nd,b,c,d,some (.str w.1),some (lD w.2)],?_⟩
   rw [cg (by simpa using q)]
   exact qfw (d:=cd w) (ρ1:=[a,some (.int r),some nd,b,c,d,some (.str w.1),some (lD w.2)]) rfl (by simp [qC,qS,h1,wm,z2,cd])
  | false=>
   rw [q] at h1
   obtain ⟨ρ,ih⟩:=qac hnd hr a b c d L (some (.str w.1)) (some (lD w.2)) fun v hv=>h v (ae _ hv)
   refine ⟨ρ,?_⟩
   rw [bL (by simpa using q)]
   exact cZ (xm (d:=cd w) (ρ1:=[a,some (.int r),some nd,b,c,d,some (.str w.1),some (lD w.2)]) rfl (by simp [qC,qS,h1,wm])) ih
noncomputable def BO (W:Wy) (seen:List Pr) (r:Int) (ns:List Int):Option Ci:=(CL W 0 seen++JN (FO [] (CL W 0 seen)) (CL W 0 seen)).find? fun w=>qdW w.2 r ns
theorem qfD (hs:(LS seen).length<=20) (hW:WI seen W) (ha:∀ x∈LS seen,x∈kW W):∀ c∈CL W 0 seen,c.2.length<=100:=by
 intro c hc
 obtain ⟨q,hq,rfl⟩:=ay.mp hc
 obtain ⟨p,j⟩:=q
 have hj:=List.mem_zipIdx hq
 have hp:p∈seen:=by rw [hj.2.2]; exact ci _
 obtain ⟨h1,h2⟩:=Qn ha p hp
 have l1:=hW.len _ (wU h1)
 have l2:=hW.len _ (wU h2)
 have hle:=hW.le
 simp only [] at l1 l2
 unfold qbO
 simp
 omega
theorem qad (W:Wy) (k0:Nat) (seen:List Pr):(CL W k0 seen).length=seen.length:=by simp [CL]
structure Sn (seen:List Pr) (W:Wy):Prop where
 n:seen.length<=6
 s:(LS seen).length<=12
 w:WI seen W
 C:CI seen W
 R:RI W
 a:∀ x∈LS seen,x∈kW W
 e:uz [sD seen]=.ok (.dct (wD W),[.non])
 z:∀ x∈LS seen,x.length<=2000
theorem qae (S:Sn seen W) (hnd:qdV nd ns) (hns:ns.length=seen.length) (hr:1<=r) :
  Kg [sD seen,.int r,nd]=.ok (match BO W seen r ns with | some w=>cd w | none=>.non,[.non,.non,.non]):=by
 have hs:(LS seen).length<=20:=by have:=S.s; omega
 have h1:=Jd S.n hs S.w S.a
 have hcl:=qad W 0 seen
 have hn:=S.n
 have h2:=Yz (CL W 0 seen) (by omega)
 have hlen:=qfD hs S.w S.a
 have hlt:=qfz S.w S.a
 obtain ⟨f1,_,f3,f4⟩:=Yy (CL W 0 seen) []
 have hF:∀ c∈FO [] (CL W 0 seen),c∈CL W 0 seen:=fun c hc=>by
  rcases f1 c hc with h | h
  ·cases h
  ·exact h
 unfold BO
 generalize hC:CL W 0 seen=C at h1 h2 hcl hlen hlt f3 hF
 generalize hFo:FO [] C=F at h2 f3 hF
 obtain ⟨x',y',jc⟩:=qab (F:=F) (fun c hc=>hlen c (hF c hc)) C none none hlen f3
 refine runD_ap.trans ?_
 unfold Kf
 rw [show qu zR [sD seen,.int r,nd]=[some (sD seen),some (.int r),some (nd),none,none,none,none,none] from rfl]
 have hw:=S.e
 refine (qH (ρ1:=[some (sD seen),some (.int r),some (nd),some (.lst (cD C)),none,none,none,none]) (by simp [qC,qS,hw,h1])).trans ?_
 refine (qH (ρ1:=[some (sD seen),some (.int r),some (nd),some (.lst (cD C)),some (.dct (fD F)),none,none,none]) (by simp [qC,qS,h2])).trans ?_
 have jd:=YA (own:=[]) (cap:=[4]) (nt:=2) (fi:=vx (ql 3)) (g:=ko 2 (qG (gNm 0) (qG (gNm 1) kn))) (ft:=joT) (fe:=joE) (ρ:=[some (sD seen),some (.int r),some (nd),some (.lst (cD C)),some (.dct (fD F)),none,none,none]) (ρ1:=[some (sD seen),some (.int r),some (nd),some (.lst (cD C)),some (.dct (fD F)),none,none,none]) (ds:=cD C) rfl (by simp [cD]; exact qR (by omega)) jc
 refine (qH (ρ1:=[some (sD seen),some (.int r),some (nd),some (.lst (cD C)),some (.dct (fD F)),some (.lst (cD (JN F C))),none,none]) (by rw [gA,jd]; rfl)).trans ?_
 have hjl:(JN F C).length<=6:=by
  unfold JN
  rw [aB]
  have:=List.length_filter_le (fun c:Ci=>odd c.2) C
  omega
 have hz:(cD C).length+(cD (JN F C)).length<=sizeLine:=by simp [cD]; exact qR (by omega)
 have hall:∀ w∈C++JN F C,∀ k∈w.2,k < ns.length:=fun w hw k hk=>by
  rw [hns]
  rcases ai.mp hw with h | h
  ·exact hlt w h k hk
  ·obtain ⟨c,hc,rfl⟩:=ay.mp h
   have hc:=(dm.mp hc).1
   rcases ai.mp hk with h | h
   ·unfold VZ at h
    cases w:F.find? fun d=>decide (d.1=c.1) with
    | none=>rw [w] at h; cases h
    | some d=>
     rw [w] at h
     exact hlt d (hF d (cu w)) k h
   ·exact hlt c hc k h
 obtain ⟨ρ,e⟩:=qac hnd hr (some (sD seen)) (some (.lst (cD C))) (some (.dct (fD F))) (some (.lst (cD (JN F C)))) (C++JN F C) none none hall
 have hfor:Wp (vx (d2 kI (ql 3) (ql 5))) (ko 2 (qG (gNm 6) (qG (gNm 7) kn))) baB [some (sD seen),some (.int r),some (nd),some (.lst (cD C)),some (.dct (fD F)),some (.lst (cD (JN F C))),none,none]=wY (ko 2 (qG (gNm 6) (qG (gNm 7) kn))) baB (cD (C++JN F C)) [some (sD seen),some (.int r),some (nd),some (.lst (cD C)),some (.dct (fD F)),some (.lst (cD (JN F C))),none,none]:=by
  rw [ul,show vx (d2 kI (ql 3) (ql 5)) [some (sD seen),some (.int r),some (nd),some (.lst (cD C)),some (.dct (fD F)),some (.lst (cD (JN F C))),none,none]=.ok (cD (C++JN F C),[some (sD seen),some (.int r),some (nd),some (.lst (cD C)),some (.dct (fD F)),some (.lst (cD (JN F C))),none,none]) by
   simp [kI,hz,kf]
   simp [cD]]
  rfl
 cases q:(C++JN F C).find? fun w=>qdW w.2 r ns with
 | some w=>
  rw [q] at e
  rw [WC,hfor.trans e]
  rfl
 | none=>
  rw [q] at e
  refine (qH (hfor.trans e)).trans ?_
  rfl
theorem xn (hw:jH ws) (hl:VS p q):vS [Wd ws,Ld p q]=.ok (sD (jf ws p q),[.non,.non]):=qbL hw hl
def uF (n:Nat) (r:Int) (ns:List Int):Prop:=ns.length=n/\∀ i∈ns,0<=i/\i < r
theorem Km (h:uF n r ns) (hn:n<=50):jn [nD ns,.int (n:Nat),.int r]=.ok (.bl true,[.non,.non,.non]):=by
 have ht:=VL (d:=nD ns) trivial
 have e:=xj (cap:=[2]) (fi:=vx (ql 0)) (ρ:=[some (nD ns),some (.int (n:Nat)),some (.int r)]) (ρ1:=[some (nD ns),some (.int (n:Nat)),some (.int r)]) (ds:=ns.map D.int) (fe:=qx [.vl,.vl,.vl] jb (qd (ql 0) (qd (dC (.int 0)) (qd (d2 gc (ql 1) (dC (.int 1))) qE)))) (fun d=>.bl (xT 0 (r - 1) d)) (by simp [kf]) (by rw [aB,h.1]; exact qR (by omega)) (fun d hd=>by
  obtain ⟨i,hi,rfl⟩:=ay.mp hd
  have h1:=jL (d:=.int i) trivial 0 (r - 1)
  simp [qC,qS,gc,wZ,h1])
 have ha:=zU (xT 0 (r - 1)) (ns.map D.int)
 have hall:(ns.map D.int).all (xT 0 (r - 1))=true:=by
  rw [bh]
  intro d hd
  obtain ⟨i,hi,rfl⟩:=ay.mp hd
  have:=h.2 i hi
  simp [xT]
  omega
 rw [hall] at ha
 have hlen:(ns.map D.int).length=n:=by rw [aB,h.1]
 refine runD_ap.trans ?_
 simp [-cW,jX,qu,qv,ht,Ug,wm,kt,neD,eqN,eqS,h.1,e,ha]
theorem zA (h:uF n r ns) (hn:n<=50):kj [nD ns,.int (n:Nat),.int r]=.ok (.non,[.non,.non,.non]):=by
 have h1:=Km h hn
 refine runD_ap.trans ?_
 simp [ki,qu,qv,qC,qS,h1,wm]
theorem qaf (hw:jH ws) (hl:VS p q) (h0:1<=r) (h1:r<=99) (hn:uF ws.length r ns):qW [Wd ws,Ld p q,.int r,nD ns]=.ok (sD (jf ws p q),[.non,.non,.non,.non]):=by
 have e1:=xn hw hl
 have e2:=kY (d:=.int r) trivial
 rw [if_pos (by simp [xT]; exact ⟨h0,h1⟩)] at e2
 have e3:=zA hn (by have:=hw.2.1; omega)
 refine runD_ap.trans ?_
 simp [jF,qu,qv,qC,qS,e1,e2,kt,e3]
theorem qgV (hw:jH ws) (p q:Int):∃ W,Sn (jf ws p q) W:=by
 have h1:(jf ws p q).length<=6:=by simp [jf]; exact hw.2.1
 have h2:=qck hw p q
 obtain ⟨W,a,b,c,d,e⟩:=Xq h1 h2
 exact ⟨W,h1,h2,a,b,c,d,e,fun x hx=>by
  obtain ⟨k,_,rfl⟩:=qgT hw p q x hx
  show 1<=2000
  omega⟩
theorem qfE (hw:jH ws) (hl:VS p q) (h0:1<=r) (h1:r<=99) (hn:uF ws.length r ns) (S:Sn (jf ws p q) W) :
  qbG [Wd ws,Ld p q,.int r,nD ns]=.ok (match BO W (jf ws p q) r ns with | some w=>cd w | none=>.non,[.non,.non,.non,.non]):=by
 have e1:=qaf hw hl h0 h1 hn
 have e2:=qae S (qcl ns) (by rw [hn.1]; simp [jf]) h0
 refine runD_ap.trans ?_
 simp [qbF,qu,qv,qC,qS,e1,e2]
noncomputable def Xr (t r:Int):Int:=if t % r % 2=0 then t % r / 2 else (t % r+r) / 2
theorem qdL (t:Int) (hr:1<=r):GE [.int t,.int r]=.ok (.int (Xr t r),[.non,.non]):=by
 have h0:0 < r:=by omega
 have hc:∀ i,qdN i 2:=fun i=>⟨by omega,by omega⟩
 unfold Xr
 refine runD_ap.trans ?_
 by_cases q:t % r % 2=0 <;> simp [GD,qu,qv,xo,wZ,h0,eqD,eqN,eqS,Jh,hc,kI,q]
noncomputable def rW (l:Wk) (r:Int) (ns:List Int):List Int:=if l=[] then (aQ r.toNat).map fun (j:Nat)=>(j:Int) else if r % 2=0 then [Xr (xV ns 0 l) r,Xr (xV ns 0 l) r+r / 2] else [Xr (xV ns 0 l) r]
abbrev iD (xs:List Int):D:=.lst (xs.map D.int)
theorem Qy {l:Wk} (h:∀ k∈l,k < ns.length) (hr:1<=r) (h9:r<=99):kU [lD l,.int r,nD ns]=.ok (iD (rW l r ns),[.non,.non,.non]):=by
 have z2:2<=sizeLine:=qR (by omega)
 have z1:1<=sizeLine:=qR (by omega)
 have hc:∀ i,qdN i 2:=fun i=>⟨by omega,by omega⟩
 refine runD_ap.trans ?_
 unfold rW
 cases l with
 | nil=>
  have c1:qe6 0 r/\r - 0<=1000000:=⟨⟨⟨by omega,by omega⟩,by omega,by omega⟩,by omega⟩
  have e:yR (.int r)=.ok (.lst ((aQ r.toNat).map fun (j:Nat)=>.int (j:Int))):=by
   unfold yR
   dsimp only
   rw [if_pos c1,Int.sub_zero]
   simp [QF]
  rw [if_pos rfl,show iD ((aQ r.toNat).map fun (j:Nat)=>(j:Int))=.lst ((aQ r.toNat).map fun (j:Nat)=>.int (j:Int)) by simp [iD]]
  simp [km,qu,qv,kt,inL,eqD,eqN,eqS,e]
 | cons a l=>
  have h1:=Qk (qcl ns) h 0
  have h2:=qdL (xV ns 0 (a::l)) hr
  have hlen:¬inL (a::l)=[]:=by simp [inL]
  rw [if_neg (by simp)]
  generalize hx:xV ns 0 (a::l)=t at h1 h2
  generalize hy:Xr t r=w at h2
  generalize hz:lD (a::l)=ld at h1
  have hlen2:kt ld=.ok (.int ((inL (a::l)).length:Int)):=by rw [<-hz]; rfl
  by_cases q:r % 2=0
  ·rw [if_pos q]
   simp [km,qu,qv,hlen2,eqD,eqN,eqS,hlen,qC,qS,h1,h2,xo,wZ,q,Jh,hc,kI,z2]
  ·rw [if_neg q]
   simp [km,qu,qv,hlen2,eqD,eqN,eqS,hlen,qC,qS,h1,h2,xo,wZ,q,z1]
noncomputable def RT (W:Wy):List Str:=(kD (kW W)).filter fun x=>decide ((wT W x).1=x)
abbrev Rt:=Str×List Int
noncomputable def rd (x:Rt):D:=.tup [.str x.1,iD x.2]
noncomputable def RO (W:Wy) (seen:List Pr) (r:Int) (ns:List Int):List Rt:=(RT W).map fun x=>(x,rW (VZ (FO [] (CL W 0 seen)) x) r ns)
theorem qag:∀ W:Wy,WE (wD W)=some (kW W)
 | []=>rfl
 | e::W=>by
  have ih:=qag W
  show (WE (wD W)).map (e.1::·)=_
  rw [ih]
  rfl
theorem Up (S:Sn seen W) (hns:ns.length=seen.length) (hr:1<=r) (h9:r<=99) :
  uT [sD seen,.int r,nD ns]=.ok (.lst ((RO W seen r ns).map rd),[.non,.non,.non]):=by
 have hs:(LS seen).length<=20:=by have:=S.s; omega
 have h1:=Jd S.n hs S.w S.a
 have hcl:=qad W 0 seen
 have hn:=S.n
 have h2:=Yz (CL W 0 seen) (by omega)
 have hlt:=qfz S.w S.a
 obtain ⟨f1,_,f3,f4⟩:=Yy (CL W 0 seen) []
 have hF:∀ c∈FO [] (CL W 0 seen),c∈CL W 0 seen:=fun c hc=>by
  rcases f1 c hc with h | h
  ·cases h
  ·exact h
 unfold RO
 generalize hC:CL W 0 seen=C at h1 h2 hcl hlt f3 hF
 generalize hFo:FO [] C=F at h2 f3 hF
 have hle:=S.w.le
 have hs12:=S.s
 have hk64:(kW W).length < 64:=by simp [kW]; omega
 have hkz:((kW W).all fun y=>decide (y.length<=sizeLine))=true:=by
  rw [bh]
  intro y hy
  exact decide_eq_true (qR (S.z y (S.w.sub y hy)))
 have hso:wB (.dct (wD W))=.ok (.lst ((kD (kW W)).map D.str)):=by
  unfold wB
  simp only [qag]
  rw [if_pos ⟨hk64,hkz⟩]
 have hsm:∀ x∈kD (kW W),x∈kW W:=fun x hx=>(je _).mem_iff.mp hx
 have hsl:(kD (kW W)).length<=12:=by rw [(je _).length_eq]; simp [kW]; omega
 refine runD_ap.trans ?_
 unfold xL
 rw [show qu wj [sD seen,.int r,nD ns]=[some (sD seen),some (.int r),some (nD ns),none,none,none] from rfl]
 have hw:=S.e
 refine (qH (ρ1:=[some (sD seen),some (.int r),some (nD ns),some (.dct (wD W)),none,none]) (by simp [qC,qS,hw])).trans ?_
 refine (qH (ρ1:=[some (sD seen),some (.int r),some (nD ns),some (.dct (wD W)),some (.dct (fD F)),none]) (by simp [qC,qS,h1,h2])).trans ?_
 have c1:=qch (own:=[]) (cap:=[3]) (fi:=vx (d1 wB (ql 3))) (ft:=jl (d2 eqD (d2 ixD (d2 ixD (ql 1) (ql 0)) (dC (.int 0))) (ql 0))) (fe:=ql 0) (ρ:=[some (sD seen),some (.int r),some (nD ns),some (.dct (wD W)),some (.dct (fD F)),none]) (ρ1:=[some (sD seen),some (.int r),some (nD ns),some (.dct (wD W)),some (.dct (fD F)),none]) (ds:=(kD (kW W)).map D.str) (fun d=>match d with | .str x=>decide ((wT W x).1=x) | _=>false) (fun d=>d) (by simp) (by simp [hso,kf]) (by rw [aB]; exact qR (by omega)) (fun d hd=>by
  obtain ⟨x,hx,rfl⟩:=ay.mp hd
  have i1:=Ul S.w.nd (hsm x hx)
  simp [i1,qho,eqD,eqN,eqS]
  rfl) (fun d hd _=>by simp)
 have e1:(((kD (kW W)).map D.str).filter fun d=>match d with | .str x=>decide ((wT W x).1=x) | _=>false).map (fun d=>d)=(RT W).map D.str:=by
  rw [List.map_id',List.filter_map]
  rfl
 rw [e1] at c1
 refine (qH (ρ1:=[some (sD seen),some (.int r),some (nD ns),some (.dct (wD W)),some (.dct (fD F)),some (.lst ((RT W).map D.str))]) (by rw [gA,c1]; rfl)).trans ?_
 have hRl:(RT W).length<=12:=by
  have:=List.length_filter_le (fun x=>decide ((wT W x).1=x)) (kD (kW W))
  unfold RT
  omega
 have z2:2<=sizeLine:=qR (by omega)
 have c2:=xj (cap:=[1,2,4]) (fi:=vx (ql 5)) (fe:=ua (qd (ql 0) (qd (qx [.vl,.vl,.vl] kU (qd (qbk (ql 3) (ql 0) (wt qE)) (qd (ql 1) (qd (ql 2) qE)))) qE))) (ρ:=[some (sD seen),some (.int r),some (nD ns),some (.dct (wD W)),some (.dct (fD F)),some (.lst ((RT W).map D.str))]) (ρ1:=[some (sD seen),some (.int r),some (nD ns),some (.dct (wD W)),some (.dct (fD F)),some (.lst ((RT W).map D.str))]) (ds:=(RT W).map D.str) (fun d=>match d with | .str x=>rd (x,rW (VZ F x) r ns) | d=>d) (by simp [kf]) (by rw [aB]; exact qR (by omega)) (fun d hd=>by
  obtain ⟨x,hx,rfl⟩:=ay.mp hd
  have g1:=qfB F x
  have hgl:∀ k∈VZ F x,k < ns.length:=fun k hk=>by
   unfold VZ at hk
   cases w:F.find? fun d=>decide (d.1=x) with
   | none=>rw [w] at hk; cases hk
   | some d=>
    rw [w] at hk
    rw [hns]
    exact hlt d (hF d (cu w)) k hk
  have h3:=Qy hgl hr h9
  simp [qbk,Kq,g1,qC,qS,h3,z2,rd])
 have e2:((RT W).map D.str).map (fun d=>match d with | .str x=>rd (x,rW (VZ F x) r ns) | d=>d)=((RT W).map fun x=>(x,rW (VZ F x) r ns)).map rd:=by
  rw [cW,cW]
  rfl
 rw [e2] at c2
 rw [xy,c2]
 rfl
noncomputable def HM (W:Wy) (seen:List Pr) (r:Int) (ns:List Int):Int:=match BO W seen r ns with
 | some _=>0
 | none=>(RO W seen r ns).foldl (fun a x=>a * (x.2.length:Int)) 1
theorem qfF (l:Wk) (hr:1<=r) (h9:r<=99) (ns:List Int):(rW l r ns).length<=99:=by
 unfold rW
 split
 ·simp; omega
 ·split <;> simp
theorem qah (a b c d:Option D):∀ (L:List Rt) (t:Int) (x y:Option D),(∀ w∈L,w.2.length<=99)->∃ x' y',wY (ko 2 (qG (gNm 5) (qG (gNm 6) kn))) (ka 4 (d2 Xw (ql 4) (d1 kt (ql 6)))) (L.map rd) [a,b,c,d,some (.int t),x,y]=.ok (.nx,[a,b,c,d,some (.int (L.foldl (fun a x=>a * (x.2.length:Int)) t)),x',y'])
 | [],t,x,y,_=>⟨x,y,rfl⟩
 | w::L,t,x,y,h=>by
  have hw:=h w (aw ..)
  obtain ⟨x',y',ih⟩:=qah a b c d L (t * (w.2.length:Int)) (some (.str w.1)) (some (iD w.2)) fun v hv=>h v (ae _ hv)
  have hc:CMul t (w.2.length:Int):=.inr ⟨by omega,by omega⟩
  refine ⟨x',y',cZ (xm (d:=rd w) (ρ1:=[a,b,c,d,some (.int t),some (.str w.1),some (iD w.2)]) rfl ?_) ih⟩
  simp [kt,Xw,wZ,hc]
theorem Uq (hw:jH ws) (hl:VS p q) (h0:1<=r) (h9:r<=99) (hn:uF ws.length r ns) (S:Sn (jf ws p q) W) :
  jx [Wd ws,Ld p q,.int r,nD ns]=.ok (.int (HM W (jf ws p q) r ns),[.non,.non,.non,.non]):=by
 have e1:=qfE hw hl h0 h9 hn S
 have e2:=xn hw hl
 have e3:=Up S (ns:=ns) (by rw [hn.1]; simp [jf]) h0 h9
 refine runD_ap.trans ?_
 unfold HM
 cases qb:BO W (jf ws p q) r ns with
 | some c=>
  rw [qb] at e1
  simp [wk,qu,qv,qC,qS,e1,qaQ,cd]
 | none=>
  rw [qb] at e1
  obtain ⟨x',y',e4⟩:=qah (some (Wd ws)) (some (Ld p q)) (some (.int r)) (some (nD ns)) (RO W (jf ws p q) r ns) 1 none none (fun w hw=>by
   obtain ⟨x,_,rfl⟩:=ay.mp hw
   exact qfF _ h0 h9 _)
  unfold wk
  rw [show qu xM [Wd ws,Ld p q,.int r,nD ns]=[some (Wd ws),some (Ld p q),some (.int r),some (nD ns),none,none,none] from rfl]
  refine (qH (ρ1:=[some (Wd ws),some (Ld p q),some (.int r),some (nD ns),none,none,none]) (by simp [qC,qS,e1,qaQ])).trans ?_
  refine (qH (ρ1:=[some (Wd ws),some (Ld p q),some (.int r),some (nD ns),some (.int 1),none,none]) (by simp)).trans ?_
  refine (qH (ρ1:=[some (Wd ws),some (Ld p q),some (.int r),some (nD ns),some (.int ((RO W (jf ws p q) r ns).foldl (fun a x=>a * (x.2.length:Int)) 1)),x',y']) (by
   rw [ul,show vx (qx [.vl,.vl,.vl] uT (qd (qx [.vl,.vl] vS (qd (ql 0) (qd (ql 1) qE))) (qd (ql 2) (qd (ql 3) qE)))) [some (Wd ws),some (Ld p q),some (.int r),some (nD ns),some (.int 1),none,none]=.ok ((RO W (jf ws p q) r ns).map rd,[some (Wd ws),some (Ld p q),some (.int r),some (nD ns),some (.int 1),none,none]) by simp [qC,qS,e2,e3,kf],vt]
   exact e4)).trans ?_
  simp [qv]
theorem qgW (l:List Pr):(LS l).Nodup:=(je _).nodup_iff.mpr (xl _ [] cP).1
theorem qbP (h:(Qi l).Nodup):Vs (.lst (prL l))=.ok (.dct (bk l)):=by
 have:=GQ l [] h (by simp)
 unfold Vs
 simp only [VO]
 rw [this]
 rfl
noncomputable def Ur (l:List (Str×Int)) (s:List Pr) (r:Int):List Int:=s.map fun x=>(VY l x.1+VY l x.2) % r
theorem qbQ (l:List (Str×Int)) (s:List Pr) (r:Int):qfp l s r=(Ur l s r).map D.int:=by
 unfold qfp Ur
 rw [cW]
 rfl
theorem iR0 {f:Sl->Out (D×Sl)} {k:Int} (h0:0<=k) (h1:k<=2000) (h:f ρ=.ok (.int k,ρ1)):jE f ρ=.ok (QF 0 k.toNat,ρ1):=by
 have c1:-(2 ^ 62:Int)<=k/\k < 2 ^ 62:=by omega
 simp [jE,h,-Int.reducePow,c1]
abbrev stB:Sl->Out (Fl×Sl):=Yc 9 (qx [.vl,.sl 1,.vl] jO (qd (ql 0) (jQ (qd (ql 5) qE)))) (qx [.vl,.sl 1,.vl] jO (qd (ql 0) (jQ (qd (d1 kt (ql 9)) qE))))
theorem qai (ns0:List Int) (hn:1<=n) (hr:1<=r) (a b c d e f:Option D):∀ (ks:List D) (town:List D) (ns:List Int) (x:Option D),town.length+2 * ks.length < 900->uF n r ns ->
  ∃ (town':List D) (ns':List Int) (x':Option D),town'.length=town.length+2 * ks.length/\uF n r ns'/\wY (gNm 10) stB ks [some (scr ns0),some (.lst town),a,b,c,some (.int r),d,e,f,some (iD ns),x]=.ok (.nx,[some (scr ns0),some (.lst town'),a,b,c,some (.int r),d,e,f,some (iD ns'),x'])
 | [],town,ns,x,_,h=>⟨town,ns,x,by simp,h,rfl⟩
 | k::ks,town,ns,x,ht,h=>by
  rw [aq] at ht
  obtain ⟨v,v0,v1,g1⟩:=vX ns0 town (many:=r) (by omega) (by omega)
  obtain ⟨i,i0,i1,g2⟩:=vX ns0 (town++[.int 0]) (many:=(ns.length:Int)) (by rw [h.1]; omega) (by rw [af]; simp; omega)
  obtain ⟨j,rfl⟩:=Int.eq_ofNat_of_zero_le i0
  have hj:j < ns.length:=by omega
  have h':uF n r (ns.set j v):=⟨by rw [cX]; exact h.1,fun y hy=>by
   rcases List.mem_or_eq_of_mem_set hy with hy | rfl
   ·exact h.2 y hy
   ·exact ⟨v0,v1⟩⟩
  obtain ⟨town',ns',x',b1,b2,b3⟩:=qai ns0 hn hr a b c d e f ks (town++[.int 0]++[.int 0]) (ns.set j v) (some k) (by rw [af,af]; simp; omega) h'
  refine ⟨town',ns',x',by rw [b1,af,af,aq]; simp; omega,b2,cZ (xm (ρ1:=[some (scr ns0),some (.lst town),a,b,c,some (.int r),d,e,f,some (iD ns),some k]) rfl ?_) b3⟩
  have hix:ixN (ns.map D.int).length (j:Int)=some j:=by
   unfold ixN
   rw [aB,if_pos (by omega),if_pos (by omega),Int.toNat_natCast]
  have hset:(ns.map D.int).set j (.int v)=(ns.set j v).map D.int:=by rw [List.map_set]
  have hlen:kt (iD ns)=.ok (.int (ns.length:Int)):=by simp [kt]
  simp only [stB,Yc]
  simp only [UW,Jw,UV,WB,Jv,Vp,cR,cS,vt]
  simp [qC,qS,g1,hlen,g2]
  simp at hix hset
  simp [hix,hset]
structure Told (ws:List Str) (p q r:Int) (ns:List Int):Prop where
 w:jH ws
 w5:ws.length<=5
 l:VS p q
 r0:1<=r
 r9:r<=9
 n:uF ws.length r ns
theorem Us (ns0:List Int) (town:List D) (ht:town.length < 300):∃ ws p q r ns town',Told ws p q r ns/\town'.length<=town.length+200 /\
  WT [scr ns0,.lst town,.int 5,.int 9]=.ok (.tup [Wd ws,Ld p q,.int r,nD ns],[.non,.lst town',.non,.non]):=by
 obtain ⟨sp,s0,s1,g1⟩:=vX ns0 town (many:=4) (by omega) (by omega)
 obtain ⟨r',r0,r1,g2⟩:=vX ns0 (town++[.int 0]) (many:=9) (by omega) (by rw [af]; simp; omega)
 obtain ⟨p,q,t3,hl,ht3,g3⟩:=qdA ns0 (town++[.int 0]++[.int 0]) (by rw [af,af]; simp; omega)
 rw [af,af] at ht3
 simp at ht3
 obtain ⟨ws,t4,hw,h5,ht4,g4⟩:=qbK ns0 t3 (by omega)
 have hLn:=qck hw p q
 obtain ⟨es,t5,x5,k5,b5,ht5,c5⟩:=Jb ns0 (room:=1+r') (by omega) (LS (jf ws p q)) t4 none (by omega)
 have hnd:(Qi es).Nodup:=by rw [k5]; exact qgW _
 have hd:=qbP hnd
 have hll:=Qx hw hl
 have hby:=GS hw hl (r:=1+r') (by omega) (l:=es) (by rw [k5]; exact fun x hx=>hx)
 rw [qbQ] at hby
 have hsl:(jf ws p q).length=ws.length:=by simp [jf]
 have hn0:uF ws.length (1+r') (Ur es (jf ws p q) (1+r')):=⟨by unfold Ur; rw [aB,hsl],fun y hy=>by
  obtain ⟨x,_,rfl⟩:=ay.mp hy
  exact ⟨eY _ (by omega),dX _ (by omega)⟩⟩
 have hcnt:0<=sp / 2 * (1+sp % 2)/\sp / 2 * (1+sp % 2)<=2:=by
  have:sp=0\/sp=1\/sp=2\/sp=3:=by omega
  rcases this with rfl | rfl | rfl | rfl <;> decide
 generalize hm:sp / 2 * (1+sp % 2)=m at hcnt
 have hrl:(QF 0 m.toNat).length=m.toNat:=by simp [QF]
 obtain ⟨t6,ns,x6,ht6,hns,e6⟩:=qai ns0 (n:=ws.length) (hw.1) (r:=1+r') (by omega) (some (.int 5)) (some (.int 9)) (some (.int sp)) (some (Ld p q)) (some (Wd ws)) (some (.dct (bk es))) (QF 0 m.toNat) t5 _ none (by rw [hrl]; omega) hn0
 rw [hrl] at ht6
 refine ⟨ws,p,q,1+r',ns,t6,⟨hw,h5,hl,by omega,by omega,hns⟩,by omega,?_⟩
 refine runD_ap.trans ?_
 unfold WS
 rw [show qu JO [scr ns0,.lst town,.int 5,.int 9]=[some (scr ns0),some (.lst town),some (.int 5),some (.int 9),none,none,none,none,none,none,none] from rfl]
 refine (qH (ρ1:=[some (scr ns0),some (.lst (town++[.int 0])),some (.int 5),some (.int 9),some (.int sp),none,none,none,none,none,none]) (by simp [qC,qS,g1])).trans ?_
 refine (qH (ρ1:=[some (scr ns0),some (.lst (town++[.int 0]++[.int 0])),some (.int 5),some (.int 9),some (.int sp),some (.int (1+r')),none,none,none,none,none]) (by simp [qC,qS,g2,kI])).trans ?_
 refine (qH (ρ1:=[some (scr ns0),some (.lst t3),some (.int 5),some (.int 9),some (.int sp),some (.int (1+r')),some (Ld p q),none,none,none,none]) (by
  simp only [aI,cQ,bP] at g3 ⊢
  simp [qC,qS,g3])).trans ?_
 refine (qH (ρ1:=[some (scr ns0),some (.lst t4),some (.int 5),some (.int 9),some (.int sp),some (.int (1+r')),some (Ld p q),some (Wd ws),none,none,none]) (by simp [qC,qS,g4])).trans ?_
 have d5:=YA (own:=[1]) (cap:=[0,1,5]) (nt:=1) (fi:=vx (qx [.vl,.vl] uP (qd (ql 7) (qd (ql 6) qE)))) (g:=gNm 0) (ft:=ftT) (fe:=ua (qd (ql 0) (qd (qx [.vl,.sl 2,.vl] jO (qd (ql 1) (jQ (qd (ql 3) qE)))) qE))) (ρ:=[some (scr ns0),some (.lst t4),some (.int 5),some (.int 9),some (.int sp),some (.int (1+r')),some (Ld p q),some (Wd ws),none,none,none]) (ρ1:=[some (scr ns0),some (.lst t4),some (.int 5),some (.int 9),some (.int sp),some (.int (1+r')),some (Ld p q),some (Wd ws),none,none,none]) (ds:=(LS (jf ws p q)).map D.str) (by simp [qC,qS,hll,kf]) (by rw [aB]; exact qR (by omega)) c5
 refine (qH (ρ1:=[some (scr ns0),some (.lst t5),some (.int 5),some (.int 9),some (.int sp),some (.int (1+r')),some (Ld p q),some (Wd ws),some (.dct (bk es)),none,none]) (by
  rw [gA,Vp,d5,vt]
  simp only []
  rw [hd]
  rfl)).trans ?_
 refine (qH (ρ1:=[some (scr ns0),some (.lst t5),some (.int 5),some (.int 9),some (.int sp),some (.int (1+r')),some (Ld p q),some (Wd ws),some (.dct (bk es)),some (iD (Ur es (jf ws p q) (1+r'))),none]) (by simp [qC,qS,hby,KZ])).trans ?_
 have hcd:qdN sp 2:=⟨by omega,by omega⟩
 have hcm:CMul (sp / 2) (1+sp % 2):=.inr ⟨by omega,by omega⟩
 have hri:=iR0 (f:=d2 Xw (d2 Jh (ql 4) (dC (.int 2))) (d2 kI (dC (.int 1)) (d2 xo (ql 4) (dC (.int 2))))) (ρ:=[some (scr ns0),some (.lst t5),some (.int 5),some (.int 9),some (.int sp),some (.int (1+r')),some (Ld p q),some (Wd ws),some (.dct (bk es)),some (iD (Ur es (jf ws p q) (1+r'))),none]) (ρ1:=[some (scr ns0),some (.lst t5),some (.int 5),some (.int 9),some (.int sp),some (.int (1+r')),some (Ld p q),some (Wd ws),some (.dct (bk es)),some (iD (Ur es (jf ws p q) (1+r'))),none]) (k:=m) hcnt.1 (by omega) (by
  simp [Jh,xo,Xw,wZ,kI,hcd,hcm,hm])
 refine (qH (ρ1:=[some (scr ns0),some (.lst t6),some (.int 5),some (.int 9),some (.int sp),some (.int (1+r')),some (Ld p q),some (Wd ws),some (.dct (bk es)),some (iD ns),x6]) (by rw [ul,hri,vt]; exact e6)).trans ?_
 have z4:4<=sizeLine:=qR (by omega)
 simp [gk,z4,qv]
abbrev nn5:Sl:=[some .non,some .non,some .non,some .non,some .non]
variable {c:D}
theorem Xu (h:qfr a):qW [a,b,c,d]=.exc "NoWords" nn4:=by
 have h1:vS [a,b]=.exc "NoWords" [some .non,some .non]:=by
  refine runD_ap.trans ?_
  unfold qfr at h
  simp [gR,qu,qv,qC,qS,h]
 refine runD_ap.trans ?_
 simp [jF,qu,qv,qC,qS,h1]
section
variable (hw:jH ws)
include hw
theorem qaj (h:qfs b):qW [Wd ws,b,c,d]=.exc "NoLook" nn4:=by
 have h1:vS [Wd ws,b]=.exc "NoLook" [some .non,some .non]:=by
  refine runD_ap.trans ?_
  have h2:=yh hw
  unfold qfs at h
  simp [gR,qu,qv,qC,qS,h,h2]
 refine runD_ap.trans ?_
 simp [jF,qu,qv,qC,qS,h1]
theorem qak (hl:VS p q) (h:Pl c) (hb:xT 1 99 c=false):qW [Wd ws,Ld p q,c,d]=.exc "NoRoom" nn4:=by
 have h1:=xn hw hl
 have h2:=kY h
 rw [hb] at h2
 refine runD_ap.trans ?_
 simp [jF,qu,qv,qC,qS,h1,h2]
theorem qal (hl:VS p q) (h0:1<=r) (h9:r<=99) (h:jn [d,.int (ws.length:Nat),.int r]=.ok (.bl false,[.non,.non,.non])):qW [Wd ws,Ld p q,.int r,d]=.exc "NoNumbers" nn4:=by
 have h1:=xn hw hl
 have h2:=kY (d:=.int r) trivial
 rw [if_pos (by simp [xT]; exact ⟨h0,h9⟩)] at h2
 have h3:kj [d,.int (ws.length:Nat),.int r]=.exc "NoNumbers" [some .non,some .non,some .non]:=by
  refine runD_ap.trans ?_
  simp [ki,qu,qv,qC,qS,h,wm,ku]
 have hlen:kt (Wd ws)=.ok (.int (ws.length:Nat)):=by simp [kt]
 refine runD_ap.trans ?_
 simp [jF,qu,qv,qC,qS,h1,h2,kt,h3]
end
theorem zV {r:D} {e:Str} {o:List D} (h:qW [a,b,c,d]=.exc e nn4) (he:e∈CS) (hw:kX ca [.xcp (ca e)]=.ok (r,o)) :
  ∀ i∈([0,1,2,3,4]:List Int),wW ca [.int i,a,b,c,d]=.ok (r,[.non,.non,.non,.non,.non]):=by
 have hh:=GU (ca:=ca) he
 have h1:qbG [a,b,c,d]=.exc e nn4:=by
  refine runD_ap.trans ?_
  simp [qbF,qu,qv,qC,qS,h]
 have h2:jx [a,b,c,d]=.exc e nn4:=by
  refine runD_ap.trans ?_
  simp [wk,qu,qv,qC,qS,h1]
 have h3:jZ [a,b,c,d]=.exc e nn4:=by
  refine runD_ap.trans ?_
  simp [xP,qu,qv,qC,qS,h]
 have h4:vO [a,b,c,d]=.exc e nn4:=by
  refine runD_ap.trans ?_
  simp [Ki,qu,qv,qC,qS,h]
 have h5:jk [a,b,c,d,.non]=.exc e nn5:=by
  refine runD_ap.trans ?_
  simp [wQ,qu,qv,qC,qS,h2]
 have h6:vN ca [a,b,c,d,.non]=.exc e nn5:=by
  refine runD_ap.trans ?_
  simp [vM,qu,qv,qC,qS,h]
 have h7:jr ca [a,b,c,d,.non]=.exc e nn5:=by
  refine runD_ap.trans ?_
  simp [uY,qu,qv,qC,qS,h6]
 have a0:atI [jx,jZ,vO] 0=some jx:=rfl
 have a1:atI [jx,jZ,vO] 1=some jZ:=rfl
 have a2:atI [jx,jZ,vO] 2=some vO:=rfl
 have a3:atI [jk,jr ca] 0=some jk:=rfl
 have a4:atI [jk,jr ca] 1=some (jr ca):=rfl
 intro i hi
 simp only [ac,aO,or_false] at hi
 rcases hi with rfl | rfl | rfl | rfl | rfl <;> refine runD_ap.trans ?_
 ·simp [xg,VW,gB,a0,qu,qv,qC,qS,h2,hh,hw,ltD]
 ·simp [xg,VW,gB,a1,qu,qv,qC,qS,h3,hh,hw,ltD]
 ·simp [xg,VW,gB,a2,qu,qv,qC,qS,h4,hh,hw,ltD]
 ·simp [xg,VW,gB,a3,qu,qv,qC,qS,h5,hh,hw,ltD,gc,wZ]
 ·simp [xg,VW,gB,a4,qu,qv,qC,qS,h7,hh,hw,ltD,gc,wZ]
abbrev qf6 (ca:Str->Addr):Sl->Out (D×Sl):=qx [.vl,.vl,.vl,.vl,.vl] (wW ca) (qd (ql 0) (qd (ql 1) (qd (ql 2) (qd (ql 3) (qd (ql 4) qE)))))
theorem qgX {r:D} (hc:∀ k∈cap,k∉[1]) (hρ:(cap.map fun k=>(ρ[k]?).getD none)=[some a,some b,some c,some d]) (h:∀ i∈([0,1,2,3,4]:List Int),wW ca [.int i,a,b,c,d]=.ok (r,[.non,.non,.non,.non,.non])) :
  jw [1] 1 cap (jE (dC (.int 5))) (gNm 0) ftT (qf6 ca) ρ=.ok (.lst [r,r,r,r,r],ρ):=by
 have hr:jE (dC (.int 5)) ρ=.ok ([.int 0,.int 1,.int 2,.int 3,.int 4],ρ):=by
  rw [iR0 (k:=5) (by omega) (by omega) rfl]
  rfl
 have e:=Uf (own:=[1]) (cap:=cap) (fi:=jE (dC (.int 5))) (fe:=qf6 ca) (fun _=>r) hc hr (qR (by simp)) (fun p hp=>by
  rw [hρ]
  simp only [ac,aO,or_false] at hp
  rcases hp with rfl | rfl | rfl | rfl | rfl
  ·have:=h 0 (by simp); simp [qC,qS,this]
  ·have:=h 1 (by simp); simp [qC,qS,this]
  ·have:=h 2 (by simp); simp [qC,qS,this]
  ·have:=h 3 (by simp); simp [qC,qS,this]
  ·have:=h 4 (by simp); simp [qC,qS,this])
 exact e
theorem Ut (h:Pl d) (hn:Ug d=false) (n:D) (r:D):jn [d,n,r]=.ok (.bl false,[.non,.non,.non]):=by
 have ht:=VL h
 refine runD_ap.trans ?_
 simp [jX,qu,qv,ht,hn,wm]
variable {xs:List D}
theorem Kn (h:xs.length≠n) (r:D):jn [.tup xs,.int (n:Nat),r]=.ok (.bl false,[.non,.non,.non]):=by
 have ht:=VL (d:=.tup xs) trivial
 have h':¬(xs.length:Int)=(n:Int):=by omega
 refine runD_ap.trans ?_
 simp [jX,qu,qv,ht,Ug,wm,kt,neD,eqN,eqS,h']
theorem qam (h:xs.length=n) (hn:n<=50) (hp:∀ d∈xs,Pl d) (hb:∃ d∈xs,xT 0 (r - 1) d=false):jn [.tup xs,.int (n:Nat),.int r]=.ok (.bl false,[.non,.non,.non]):=by
 have ht:=VL (d:=.tup xs) trivial
 have e:=xj (cap:=[2]) (fi:=vx (ql 0)) (ρ:=[some (.tup xs),some (.int (n:Nat)),some (.int r)]) (ρ1:=[some (.tup xs),some (.int (n:Nat)),some (.int r)]) (ds:=xs) (fe:=qx [.vl,.vl,.vl] jb (qd (ql 0) (qd (dC (.int 0)) (qd (d2 gc (ql 1) (dC (.int 1))) qE)))) (fun d=>.bl (xT 0 (r - 1) d)) (by simp [kf]) (by rw [h]; exact qR (by omega)) (fun d hd=>by
  have h1:=jL (hp d hd) 0 (r - 1)
  simp [qC,qS,gc,wZ,h1])
 have ha:=zU (xT 0 (r - 1)) xs
 have hall:xs.all (xT 0 (r - 1))=false:=by
  obtain ⟨d,hd,hbd⟩:=hb
  rw [List.all_eq_false]
  exact ⟨d,hd,by rw [hbd]; exact aY⟩
 rw [hall] at ha
 refine runD_ap.trans ?_
 simp [jX,qu,qv,ht,Ug,wm,kt,neD,eqN,eqS,h,e,ha]
theorem qhQ (h1:1<=xs.length) (h5:xs.length<=5):slD (some 1) none none (.tup xs)=.ok (.tup xs.tail)/\slD none (some (-1)) none (.tup xs)=.ok (.tup xs.dropLast):=by
 match xs,h1,h5 with
 | [a],_,_=>exact ⟨by kernel_rfl,by kernel_rfl⟩
 | [a,b],_,_=>exact ⟨by kernel_rfl,by kernel_rfl⟩
 | [a,b,c],_,_=>exact ⟨by kernel_rfl,by kernel_rfl⟩
 | [a,b,c,d],_,_=>exact ⟨by kernel_rfl,by kernel_rfl⟩
 | [a,b,c,d,e],_,_=>exact ⟨by kernel_rfl,by kernel_rfl⟩
 | _::_::_::_::_::_::_,_,h=>simp at h
noncomputable def WN (xs:List D) (r:Int):List D:=[.non,.tup [],.tup (xs++[.int 0]),.tup xs.tail,.lst xs,.tup (xs.dropLast++[.int r]),.tup (xs.dropLast++[.int (-1)]),.tup (xs.dropLast++[.non]),.str "0",.tup (xs.dropLast++[.bl false])]
theorem qfG (h1:1<=n) (h5:n<=5) (h:uF n r ns) (hd:d∈WN (ns.map D.int) r):jn [d,.int (n:Nat),.int r]=.ok (.bl false,[.non,.non,.non]):=by
 have hl:(ns.map D.int).length=n:=by rw [aB,h.1]
 have hpl:∀ x∈ns.map D.int,Pl x:=fun x hx=>by
  obtain ⟨i,_,rfl⟩:=ay.mp hx
  trivial
 have last:∀ x:D,Pl x->xT 0 (r - 1) x=false->jn [.tup ((ns.map D.int).dropLast++[x]),.int (n:Nat),.int r]=.ok (.bl false,[.non,.non,.non]):=fun x hx hb=>by
  refine qam ?_ (by omega) (fun d hd=>?_) ⟨x,by simp,hb⟩
  ·rw [af,List.length_dropLast,hl]
   simp
   omega
  ·rcases ai.mp hd with hd | hd
   ·exact hpl d (List.dropLast_subset _ hd)
   ·rw [ax.mp hd]; exact hx
 unfold WN at hd
 simp only [ac,aO,or_false] at hd
 rcases hd with rfl | rfl | rfl | rfl | rfl | rfl | rfl | rfl | rfl | rfl
 ·exact Ut (d:=.non) trivial rfl _ _
 ·exact Kn (xs:=[]) (by simp; omega) _
 ·exact Kn (by rw [af,hl]; simp) _
 ·exact Kn (by rw [List.length_tail,hl]; omega) _
 ·exact Ut (d:=.lst _) trivial rfl _ _
 ·exact last _ trivial (by simp [xT]; intro; omega)
 ·exact last _ trivial (by simp [xT])
 ·exact last _ trivial rfl
 ·exact Ut (d:=.str _) trivial rfl _ _
 ·exact last _ trivial rfl
theorem qbR (hca:GT ca) (T:Told ws p q r ns):wW ca [.int 3,Wd ws,Ld p q,.int r,nD ns]=.ok (ref 9,[.non,.non,.non,.non,.non])/\wW ca [.int 4,Wd ws,Ld p q,.int r,nD ns]=.ok (ref 5,[.non,.non,.non,.non,.non]):=by
 have h9:r<=99:=by have:=T.r9; omega
 obtain ⟨W,S⟩:=qgV T.w p q
 have h1:=Uq T.w T.l T.r0 h9 T.n S
 have h2:=qaf T.w T.l T.r0 h9 T.n
 have h3:=xn T.w T.l
 have a3:atI [jk,jr ca] 0=some jk:=rfl
 have a4:atI [jk,jr ca] 1=some (jr ca):=rfl
 have hp:=GU (ca:=ca) (y := "NoPlace") (by decide +kernel)
 have hw:=GU (ca:=ca) (y := "NoWorths") (by decide +kernel)
 have wp:=Uj hca
 have ww:=VQ hca
 constructor
 ·have h4:jk [Wd ws,Ld p q,.int r,nD ns,.non]=.exc "NoPlace" nn5:=by
   have hb:=jL (d:=.non) trivial 0 (HM W (jf ws p q) r ns - 1)
   refine runD_ap.trans ?_
   simp [wQ,qu,qv,qC,qS,h1,gc,wZ,hb,xT,wm,ku]
  refine runD_ap.trans ?_
  simp [xg,VW,gB,a3,qu,qv,qC,qS,h4,hp,wp,ltD,gc,wZ]
 ·have e2:=kY (d:=.int r) trivial
  rw [if_pos (by simp [xT]; exact ⟨T.r0,h9⟩)] at e2
  have e3:=Qj (VN (d:=.non) trivial rfl r)
  rw [if_neg aY] at e3
  have h5:xO [Wd ws,Ld p q,.int r,.non]=.exc "NoWorths" nn4:=by
   refine runD_ap.trans ?_
   simp [xN,qu,qv,qC,qS,h3,e2,e3]
  have hh:qaq ca ["NoWorths"] "NoWorths"=some (ca "NoWorths"):=by
   unfold qaq
   rw [if_pos (ax.mpr rfl)]
  have h6:vN ca [Wd ws,Ld p q,.int r,nD ns,.non]=.ok (.bl false,[.non,.non,.non,.non,.non]):=by
   refine runD_ap.trans ?_
   simp [vM,qu,qv,qC,qS,h2,VW,h5,hh]
  have h7:jr ca [Wd ws,Ld p q,.int r,nD ns,.non]=.exc "NoWorths" nn5:=by
   refine runD_ap.trans ?_
   simp [uY,qu,qv,qC,qS,h6,h3,wm,ku]
  refine runD_ap.trans ?_
  simp [xg,VW,gB,a4,qu,qv,qC,qS,h7,hw,ww,ltD,gc,wZ]
theorem qfH (hca:GT ca) (ns0:List Int):qbH ca [scr ns0]=.ok (.bl true,[.non]):=by
 refine runD_ap.trans ?_
 have hbg:=big
 have z1:1<=sizeLine:=by omega
 have z2:2<=sizeLine:=by omega
 have z3:3<=sizeLine:=by omega
 have z5:5<=sizeLine:=by omega
 have z7:7<=sizeLine:=by omega
 have z10:10<=sizeLine:=by omega
 obtain ⟨ws,p,q,r,ns,t1,T,ht1,g1⟩:=Us ns0 [] (by simp)
 simp at ht1
 obtain ⟨bw,hbw,g2⟩:=VR ns0 t1 (by omega)
 obtain ⟨bl,hbl,g3⟩:=Uk ns0 (t1++[.int 0]) (by rw [af]; simp; omega)
 obtain ⟨nd,hnd,g4⟩:=xQ ns0 (t1++[.int 0]++[.int 0]) [.int 0,.int 100,.non,.bl true,.str "2",.tup [.int 2],.int (-1)] (by simp) (by rw [af,af]; simp; omega)
 have hpn:Pl nd/\xT 1 99 nd=false:=by
  simp only [ac,aO,or_false] at hnd
  rcases hnd with rfl | rfl | rfl | rfl | rfl | rfl | rfl
  ·exact ⟨trivial,by decide⟩
  ·exact ⟨trivial,by decide⟩
  ·exact ⟨trivial,rfl⟩
  ·exact ⟨trivial,rfl⟩
  ·exact ⟨trivial,rfl⟩
  ·exact ⟨trivial,rfl⟩
  ·exact ⟨trivial,by decide⟩
 have hnl:(ns.map D.int).length=ws.length:=by rw [aB,T.n.1]
 have hw1:1<=ws.length:=T.w.1
 obtain ⟨wr,hwr,g5⟩:=xQ ns0 (t1++[.int 0]++[.int 0]++[.int 0]) (WN (ns.map D.int) r) (by simp [WN]) (by rw [af,af,af]; simp; omega)
 have hbad:=qfG hw1 T.w5 T.n hwr
 obtain ⟨cut1,cut2⟩:=qhQ (xs:=ns.map D.int) (by omega) (by have:=T.w5; omega)
 have h9:r<=99:=by have:=T.r9; omega
 have k0:=zV (ca:=ca) (Xu (b:=bl) (c:=nd) (d:=wr) hbw) (by decide +kernel) (Ui hca)
 have k1:=zV (ca:=ca) (qaj T.w (c:=nd) (d:=wr) hbl) (by decide +kernel) (Xo hca)
 have k2:=zV (ca:=ca) (qak T.w T.l (d:=wr) hpn.1 hpn.2) (by decide +kernel) (Xp hca)
 have k3:=zV (ca:=ca) (qal T.w T.l T.r0 h9 hbad) (by decide +kernel) (Kl hca)
 obtain ⟨l3,l4⟩:=qbR hca T
 unfold WN at g5
 rw [show nD ns=D.tup (ns.map D.int) from rfl] at g1 l3 l4
 generalize hxs:ns.map D.int=xs at cut1 cut2 hnl g5 l3 l4 g1
 have w5:=T.w5
 have s1:xs.length+1<=sizeLine:=by omega
 have s2:xs.dropLast.length+1<=sizeLine:=by rw [List.length_dropLast]; omega
 have s3:xs.length - 1+1<=sizeLine:=by omega
 unfold qdw
 rw [show qu VH [scr ns0]=[some (scr ns0),none,none,none,none,none,none,none,none,none] from rfl]
 refine (qH (ρ1:=[some (scr ns0),some (.lst []),none,none,none,none,none,none,none,none]) (by simp)).trans ?_
 refine (qH (ρ1:=[some (scr ns0),some (.lst t1),none,none,some (Wd ws),some (Ld p q),some (.int r),some (.tup xs),none,none]) (by simp [qC,qS,g1,ko,qG,kn])).trans ?_
 refine (qH (ρ1:=[some (scr ns0),some (.lst (t1++[.int 0]++[.int 0])),none,none,some (Wd ws),some (Ld p q),some (.int r),some (.tup xs),some bw,some bl]) (by
  simp only [aI,cQ,bP] at g3 ⊢
  simp [qC,qS,g2,g3,ko,qG,kn,z2])).trans ?_
 refine (qH (ρ1:=[some (scr ns0),some (.lst (t1++[.int 0]++[.int 0]++[.int 0])),some nd,none,some (Wd ws),some (Ld p q),some (.int r),some (.tup xs),some bw,some bl]) (by
  simp only [aI,cQ,bP] at g4 ⊢
  simp [qC,qS,g4,z7])).trans ?_
 refine (qH (ρ1:=[some (scr ns0),some (.lst (t1++[.int 0]++[.int 0]++[.int 0])),some nd,some (.lst [.non,.tup [],.tup (xs++[.int 0]),.tup xs.tail,.lst xs,.tup (xs.dropLast++[.int r]),.tup (xs.dropLast++[.int (-1)])]),some (Wd ws),some (Ld p q),some (.int r),some (.tup xs),some bw,some bl]) (by
  simp only [gA,ZV,Jw,WB,qe1,ZU,Vq,Vp,Jv,zc,Qs,cR,cS,vt,VX,Out.plain]
  simp [kI,s1,s3,cut1,cut2,KZ,z1,z7])).trans ?_
 refine (qH (ρ1:=[some (scr ns0),some (.lst (t1++[.int 0]++[.int 0]++[.int 0]++[.int 0])),some nd,some wr,some (Wd ws),some (Ld p q),some (.int r),some (.tup xs),some bw,some bl]) (by
  simp only [gA,UW,ZV,Jw,UV,WB,qe1,ZU,Vq,Vp,Jv,zc,Qs,cR,cS,vt,VX,Out.plain]
  simp only [aI,cQ,bP] at g5 ⊢
  simp [kI,s3,cut2,z1,z3,z10,qC,qS,g5])).trans ?_
 have A:∀ {a b c d e:D} (cap:List Nat) (_:∀ k∈cap,k∉[1]) (ρ:Sl) (_:(cap.map fun k=>(ρ[k]?).getD none)=[some a,some b,some c,some d]) (_:∀ i∈([0,1,2,3,4]:List Int),wW ca [.int i,a,b,c,d]=.ok (e,[.non,.non,.non,.non,.non])),jw [1] 1 cap (jE (dC (.int 5))) (gNm 0) ftT (qf6 ca) ρ=.ok (.lst [e,e,e,e,e],ρ):=fun cap hc ρ hρ h=>qgX hc hρ h
 have d0:=A [8,9,2,3] (by decide) [some (scr ns0),some (.lst (t1++[.int 0]++[.int 0]++[.int 0]++[.int 0])),some nd,some wr,some (Wd ws),some (Ld p q),some (.int r),some (.tup xs),some bw,some bl] rfl k0
 have d1:=A [4,9,2,3] (by decide) [some (scr ns0),some (.lst (t1++[.int 0]++[.int 0]++[.int 0]++[.int 0])),some nd,some wr,some (Wd ws),some (Ld p q),some (.int r),some (.tup xs),some bw,some bl] rfl k1
 have d2:=A [4,5,2,3] (by decide) [some (scr ns0),some (.lst (t1++[.int 0]++[.int 0]++[.int 0]++[.int 0])),some nd,some wr,some (Wd ws),some (Ld p q),some (.int r),some (.tup xs),some bw,some bl] rfl k2
 have d3:=A [4,5,6,3] (by decide) [some (scr ns0),some (.lst (t1++[.int 0]++[.int 0]++[.int 0]++[.int 0])),some nd,some wr,some (Wd ws),some (Ld p q),some (.int r),some (.tup xs),some bw,some bl] rfl k3
 generalize t1++[.int 0]++[.int 0]++[.int 0]++[.int 0]=tw at d0 d1 d2 d3
 refine (qH (ρ1:=[some (scr ns0),some (.lst tw),some nd,some wr,some (Wd ws),some (Ld p q),some (.int r),some (.tup xs),some bw,some bl]) (by rw [Vr,zJ,Vq,d0]; simp [z1,z5,qar,neD,eqN,uf,eqS,aE])).trans ?_
 refine (qH (ρ1:=[some (scr ns0),some (.lst tw),some nd,some wr,some (Wd ws),some (Ld p q),some (.int r),some (.tup xs),some bw,some bl]) (by rw [Vr,zJ,Vq,d1]; simp [z1,z5,qar,neD,eqN,uf,eqS,aE])).trans ?_
 refine (qH (ρ1:=[some (scr ns0),some (.lst tw),some nd,some wr,some (Wd ws),some (Ld p q),some (.int r),some (.tup xs),some bw,some bl]) (by rw [Vr,zJ,Vq,d2]; simp [z1,z5,qar,neD,eqN,uf,eqS,aE])).trans ?_
 refine (qH (ρ1:=[some (scr ns0),some (.lst tw),some nd,some wr,some (Wd ws),some (Ld p q),some (.int r),some (.tup xs),some bw,some bl]) (by rw [Vr,zJ,Vq,d3]; simp [z1,z5,qar,neD,eqN,uf,eqS,aE])).trans ?_
 have d4:=Uf (own:=[1]) (cap:=[4,5,6,7]) (fi:=vx (ua (qd (dC (.int 3)) (qd (dC (.int 4)) qE)))) (fe:=qf6 ca) (ρ:=[some (scr ns0),some (.lst tw),some nd,some wr,some (Wd ws),some (Ld p q),some (.int r),some (.tup xs),some bw,some bl]) (ρ1:=[some (scr ns0),some (.lst tw),some nd,some wr,some (Wd ws),some (Ld p q),some (.int r),some (.tup xs),some bw,some bl]) (ds:=[.int 3,.int 4]) (fun d=>match d with | .int i=>if i=3 then ref 9 else ref 5 | d=>d) (by decide) (by simp [z2,kf]) (qR (by simp)) (fun d hd=>by
  simp only [ac,aO,or_false] at hd
  rcases hd with rfl | rfl
  ·simp [qC,qS,l3]
  ·simp [qC,qS,l4])
 rw [show ([.int 3,.int 4]:List D).map (fun d=>match d with | .int i=>if i=3 then ref 9 else ref 5 | d=>d)=[ref 9,ref 5] from rfl] at d4
 rw [xy,Vq,d4]
 simp [z2,eqD,eqN,uf,eqS,qv]
end Kx
namespace Kx
open PySem PySem.Spec PyProof.Rows L2 L2.D2
variable {us:List Value} {P:List Value->Prop}
theorem qhq (hl:us.length=0) (h:P []):P us:=List.length_eq_zero_iff.mp hl ▸ h
theorem qfI {n:Nat} (hl:us.length=n+1):∃ a l,us=a::l/\l.length=n:=by
 cases us with
 | nil=>cases hl
 | cons a l=>exact ⟨a,l,rfl,Nat.succ.inj hl⟩
theorem qhr (hl:us.length=1) (h:∀ a,P [a]):P us:=by
 obtain ⟨a,l,rfl,e⟩:=qfI hl
 exact qhq (P:=fun l=>P (a::l)) e (h a)
theorem qhs (hl:us.length=2) (h:∀ a b,P [a,b]):P us:=by
 obtain ⟨a,l,rfl,e⟩:=qfI hl
 exact qhr (P:=fun l=>P (a::l)) e (h a)
theorem qht (hl:us.length=3) (h:∀ a b c,P [a,b,c]):P us:=by
 obtain ⟨a,l,rfl,e⟩:=qfI hl
 exact qhs (P:=fun l=>P (a::l)) e (h a)
theorem qhu (hl:us.length=4) (h:∀ a b c d,P [a,b,c,d]):P us:=by
 obtain ⟨a,l,rfl,e⟩:=qfI hl
 exact qht (P:=fun l=>P (a::l)) e (h a)
theorem qhR (hl:us.length=5) (h:∀ a b c d e,P [a,b,c,d,e]):P us:=by
 obtain ⟨a,l,rfl,e⟩:=qfI hl
 exact qhu (P:=fun l=>P (a::l)) e (h a)
variable {K:Frag} {h:Heap} {mg:Str->Option Value}
theorem qdM (X:K.In h) (G:h.Ns mainGlobals mg) {x:Str} {st:Stmt} {ps:List Str} {f:Addr} {oc:Value} {od an:Option Addr} {osl:Array (Option Value)} {kV doc pm cdv ct:Value}
  (a:nsIn K mainGlobals x=some (some (.ref f))) (l:K.lookup f=some ⟨oc,od,.func (bJ x x (ue st) (kJ st) (qe st) .none kV doc pm an cdv ct),osl⟩) (c:codeIn K cdv x=true) (k:keepIn K (.ref f)=true)
  (hb:∀ (kV doc pm:Value) (an:Option Addr) (cdv ct:Value) (us:List Value),us.length=ps.length->bindArgs (bJ x x (ue st) (kJ st) (qe st) .none kV doc pm an cdv ct) ⟨us,[]⟩=pure (ps.zip us)):qU K mg x st ps:=
 ⟨f,_,XU l c k,mg_of X G a,(XU l c k).binds hb⟩
variable {x:Str}
theorem qan {l:List Str} {f:Str->Addr} (nd:(l.map f).Nodup) {y:Str} (hx:x∈l) (hy:y∈l) (e:f x=f y):x=y:=by
 obtain ⟨i,hi,rfl⟩:=dM.mp hx
 obtain ⟨j,hj,rfl⟩:=dM.mp hy
 have q:=(ez (h₀:=by simpa using hi) (h₁:=by simpa using hj) nd).mp (show (l.map f)[i]'(by simpa using hi)=(l.map f)[j]'(by simpa using hj) by simpa using e)
 subst q
 rfl
noncomputable def caT (T:List (Str×Addr)) (x:Str):Addr:=(T.lookup x).getD 0
noncomputable def qbS (K:Frag) (Cs:List Addr) (W:Addr):Bool:=decide Cs.Nodup&&Cs.all fun c=>xcB K c&&decide (bu K (.ref c) (.ref W)=some true)&&decide (bM K (.ref c) (.type "ValueError")=some true)&&dg K c bmV "ValueError.__new__"&&Cs.all fun d=>decide (bM K (.ref c) (.ref d)=some (decide (c=d)))
theorem qbT {Cs:List Addr} {W:Addr} (h:qbS K Cs W=true):Cs.Nodup/\∀ c∈Cs,xcB K c=true/\bu K (.ref c) (.ref W)=some true/\bM K (.ref c) (.type "ValueError")=some true/\dg K c bmV "ValueError.__new__"=true/\∀ d∈Cs,bM K (.ref c) (.ref d)=some (decide (c=d)):=by
 unfold qbS at h
 rw [aN,bh] at h
 refine ⟨of_decide_eq_true h.1,fun c hc=>?_⟩
 have q:=h.2 c hc
 simp only [aN,decide_eq_true_eq,bh] at q
 exact ⟨q.1.1.1.1,q.1.1.1.2,q.1.1.2,q.1.2,q.2⟩
variable {c:Str}
theorem qfJ (h:c∈FS):c = "how_many"\/c = "left_out"\/c = "mended"\/c = "place_of"\/c = "worths_at":=by simpa [FS] using h
theorem qfK (h:c∈CS):c = "NoWords"\/c = "NoLook"\/c = "NoNumbers"\/c = "NoRoom"\/c = "NoWord"\/c = "NoWorths"\/c = "Never"\/c = "Full"\/c = "Known"\/c = "NoPlace"\/c = "NoLetters"\/c = "NoText"\/c = "Nothing":=by simpa [CS] using h
theorem qgY (X:K.In h) (G:h.Ns mainGlobals mg) {CW C0 C1 C2 C3 C4 C5 C6 C7 C8 C9 C10 C11 C12:Addr} {F0 F1 F2 F3 F4:Addr} {t_LEAST_PLACE t_MOST_LETTERS t_MOST_PLACE t_MOST_ROOM t_MOST_WORDS:Tok}
  (aW:nsIn K mainGlobals "WordError"=some (some (.ref CW)))
  (a0:nsIn K mainGlobals "NoWords"=some (some (.ref C0)))
  (a1:nsIn K mainGlobals "NoLook"=some (some (.ref C1)))
  (a2:nsIn K mainGlobals "NoNumbers"=some (some (.ref C2)))
  (a3:nsIn K mainGlobals "NoRoom"=some (some (.ref C3)))
  (a4:nsIn K mainGlobals "NoWord"=some (some (.ref C4)))
  (a5:nsIn K mainGlobals "NoWorths"=some (some (.ref C5)))
  (a6:nsIn K mainGlobals "Never"=some (some (.ref C6)))
  (a7:nsIn K mainGlobals "Full"=some (some (.ref C7)))
  (a8:nsIn K mainGlobals "Known"=some (some (.ref C8)))
  (a9:nsIn K mainGlobals "NoPlace"=some (some (.ref C9)))
  (a10:nsIn K mainGlobals "NoLetters"=some (some (.ref C10)))
  (a11:nsIn K mainGlobals "NoText"=some (some (.ref C11)))
  (a12:nsIn K mainGlobals "Nothing"=some (some (.ref C12)))
  (z_ValueError:nsIn K mainGlobals "ValueError"=some none)
  (z_all:nsIn K mainGlobals "all"=some none)
  (z_bool:nsIn K mainGlobals "bool"=some none)
  (z_dict:nsIn K mainGlobals "dict"=some none)
  (z_enumerate:nsIn K mainGlobals "enumerate"=some none)
  (z_int:nsIn K mainGlobals "int"=some none)
  (z_isinstance:nsIn K mainGlobals "isinstance"=some none)
  (z_len:nsIn K mainGlobals "len"=some none)
  (z_list:nsIn K mainGlobals "list"=some none)
  (z_max:nsIn K mainGlobals "max"=some none)
  (z_min:nsIn K mainGlobals "min"=some none)
  (z_range:nsIn K mainGlobals "range"=some none)
  (z_reversed:nsIn K mainGlobals "reversed"=some none)
  (z_set:nsIn K mainGlobals "set"=some none)
  (z_sorted:nsIn K mainGlobals "sorted"=some none)
  (z_str:nsIn K mainGlobals "str"=some none)
  (z_tuple:nsIn K mainGlobals "tuple"=some none)
  (c_LEAST_PLACE:nsIn K mainGlobals "LEAST_PLACE"=some (some (.int (-3) t_LEAST_PLACE)))
  (c_MOST_LETTERS:nsIn K mainGlobals "MOST_LETTERS"=some (some (.int 6 t_MOST_LETTERS)))
  (c_MOST_PLACE:nsIn K mainGlobals "MOST_PLACE"=some (some (.int 2 t_MOST_PLACE)))
  (c_MOST_ROOM:nsIn K mainGlobals "MOST_ROOM"=some (some (.int 99 t_MOST_ROOM)))
  (c_MOST_WORDS:nsIn K mainGlobals "MOST_WORDS"=some (some (.int 6 t_MOST_WORDS)))
  (ex:qbS K [C0,C1,C2,C3,C4,C5,C6,C7,C8,C9,C10,C11,C12] CW=true)
  (sx5:bu K (.ref C5) (.ref C5)=some true)
  (r0:nsIn K mainGlobals "how_many"=some (some (.ref F0))) (r1:nsIn K mainGlobals "left_out"=some (some (.ref F1))) (r2:nsIn K mainGlobals "mended"=some (some (.ref F2))) (r3:nsIn K mainGlobals "place_of"=some (some (.ref F3))) (r4:nsIn K mainGlobals "worths_at"=some (some (.ref F4))) :
  Zt K mg (fun x=>.ref (caT [("WordError",CW),("NoWords",C0),("NoLook",C1),("NoNumbers",C2),("NoRoom",C3),("NoWord",C4),("NoWorths",C5),("Never",C6),("Full",C7),("Known",C8),("NoPlace",C9),("NoLetters",C10),("NoText",C11),("Nothing",C12),("how_many",F0),("left_out",F1),("mended",F2),("place_of",F3),("worths_at",F4)] x)) (caT [("WordError",CW),("NoWords",C0),("NoLook",C1),("NoNumbers",C2),("NoRoom",C3),("NoWord",C4),("NoWorths",C5),("Never",C6),("Full",C7),("Known",C8),("NoPlace",C9),("NoLetters",C10),("NoText",C11),("Nothing",C12),("how_many",F0),("left_out",F1),("mended",F2),("place_of",F3),("worths_at",F4)])/\GT (caT [("WordError",CW),("NoWords",C0),("NoLook",C1),("NoNumbers",C2),("NoRoom",C3),("NoWord",C4),("NoWorths",C5),("Never",C6),("Full",C7),("Known",C8),("NoPlace",C9),("NoLetters",C10),("NoText",C11),("Nothing",C12),("how_many",F0),("left_out",F1),("mended",F2),("place_of",F3),("worths_at",F4)]):=by
 obtain ⟨nd,al⟩:=qbT ex
 generalize hT:([("WordError",CW),("NoWords",C0),("NoLook",C1),("NoNumbers",C2),("NoRoom",C3),("NoWord",C4),("NoWorths",C5),("Never",C6),("Full",C7),("Known",C8),("NoPlace",C9),("NoLetters",C10),("NoText",C11),("Nothing",C12),("how_many",F0),("left_out",F1),("mended",F2),("place_of",F3),("worths_at",F4)]:List (Str×Addr))=T
 have eW:caT T "WordError"=CW:=by subst hT; kernel_rfl
 have e0:caT T "NoWords"=C0:=by subst hT; kernel_rfl
 have e1:caT T "NoLook"=C1:=by subst hT; kernel_rfl
 have e2:caT T "NoNumbers"=C2:=by subst hT; kernel_rfl
 have e3:caT T "NoRoom"=C3:=by subst hT; kernel_rfl
 have e4:caT T "NoWord"=C4:=by subst hT; kernel_rfl
 have e5:caT T "NoWorths"=C5:=by subst hT; kernel_rfl
 have e6:caT T "Never"=C6:=by subst hT; kernel_rfl
 have e7:caT T "Full"=C7:=by subst hT; kernel_rfl
 have e8:caT T "Known"=C8:=by subst hT; kernel_rfl
 have e9:caT T "NoPlace"=C9:=by subst hT; kernel_rfl
 have e10:caT T "NoLetters"=C10:=by subst hT; kernel_rfl
 have e11:caT T "NoText"=C11:=by subst hT; kernel_rfl
 have e12:caT T "Nothing"=C12:=by subst hT; kernel_rfl
 have eF0:caT T "how_many"=F0:=by subst hT; kernel_rfl
 have eF1:caT T "left_out"=F1:=by subst hT; kernel_rfl
 have eF2:caT T "mended"=F2:=by subst hT; kernel_rfl
 have eF3:caT T "place_of"=F3:=by subst hT; kernel_rfl
 have eF4:caT T "worths_at"=F4:=by subst hT; kernel_rfl
 have hm:CS.map (caT T)=[C0,C1,C2,C3,C4,C5,C6,C7,C8,C9,C10,C11,C12]:=by
  unfold CS
  simp only [aF,bK,e0,e1,e2,e3,e4,e5,e6,e7,e8,e9,e10,e11,e12]
 have hin:∀ c∈CS,caT T c∈[C0,C1,C2,C3,C4,C5,C6,C7,C8,C9,C10,C11,C12]:=fun c hc=>hm ▸ ay.mpr ⟨c,hc,rfl⟩
 refine ⟨⟨⟨fun c hc=>rfl,fun c hc=>?_,fun c hc=>(al _ (hin c hc)).1,fun c hc d hd=>(al _ (hin c hc)).2.2.2.2 _ (hin d hd),fun c hc=>(al _ (hin c hc)).2.2.1⟩,fun c hc=>?_,fun c hc=>(al _ (hin c hc)).2.2.2.1,fun x hx=>?fr,?_,mg_none_of X G z_ValueError,mg_none_of X G z_all,mg_none_of X G z_bool,mg_none_of X G z_dict,mg_none_of X G z_enumerate,mg_none_of X G z_int,mg_none_of X G z_isinstance,mg_none_of X G z_len,mg_none_of X G z_list,mg_none_of X G z_max,mg_none_of X G z_min,mg_none_of X G z_range,mg_none_of X G z_reversed,mg_none_of X G z_set,mg_none_of X G z_sorted,mg_none_of X G z_str,mg_none_of X G z_tuple,⟨_,mg_of X G c_LEAST_PLACE⟩,⟨_,mg_of X G c_MOST_LETTERS⟩,⟨_,mg_of X G c_MOST_PLACE⟩,⟨_,mg_of X G c_MOST_ROOM⟩,⟨_,mg_of X G c_MOST_WORDS⟩,?sX5⟩,fun x hx y hy e=>?_⟩
 case sX5=>rw [e5]; exact sx5
 case fr=>
  rcases qfJ hx with rfl | rfl | rfl | rfl | rfl
  ·rw [eF0]; exact mg_of X G r0
  ·rw [eF1]; exact mg_of X G r1
  ·rw [eF2]; exact mg_of X G r2
  ·rw [eF3]; exact mg_of X G r3
  ·rw [eF4]; exact mg_of X G r4
 ·show bu K (.ref (caT T c)) (.ref (caT T "WordError"))=some true
  rw [eW]
  exact (al _ (hin c hc)).2.1
 ·rcases qfK hc with rfl | rfl | rfl | rfl | rfl | rfl | rfl | rfl | rfl | rfl | rfl | rfl | rfl
  ·rw [e0]; exact mg_of X G a0
  ·rw [e1]; exact mg_of X G a1
  ·rw [e2]; exact mg_of X G a2
  ·rw [e3]; exact mg_of X G a3
  ·rw [e4]; exact mg_of X G a4
  ·rw [e5]; exact mg_of X G a5
  ·rw [e6]; exact mg_of X G a6
  ·rw [e7]; exact mg_of X G a7
  ·rw [e8]; exact mg_of X G a8
  ·rw [e9]; exact mg_of X G a9
  ·rw [e10]; exact mg_of X G a10
  ·rw [e11]; exact mg_of X G a11
  ·rw [e12]; exact mg_of X G a12
 ·show mg "WordError"=some (.ref (caT T "WordError"))
  rw [eW]
  exact mg_of X G aW
 ·
  rw [<-hm] at nd
  exact qan nd hx hy e
structure Tx (K:Frag) (mg:Str->Option Value) (ca:Str->Addr):Prop where
 x_Lcell_at:qU K mg "_law_cell_at" uL ["_law_script", "_law_k"]
 x_Lmixed:qU K mg "_law_mixed" zK ["_law_script", "_law_k", "_law_many"]
 x_Ldraw:qU K mg "_law_draw" JF ["_law_script", "_law_town", "_law_many"]
 x_Lpick:qU K mg "_law_pick" JG ["_law_script", "_law_town", "_law_some"]
 x_Lword:qU K mg "_law_word" xA ["_law_script", "_law_town", "_law_letters_here", "_law_most"]
 x_Lwords:qU K mg "_law_words" zL ["_law_script", "_law_town", "_law_most"]
 x_Llook:qU K mg "_law_look" JK ["_law_script", "_law_town"]
 x_Lat:qU K mg "_law_at" Xf ["_law_word_here", "_law_place"]
 x_Lseen:qU K mg "_law_seen" xB ["_law_words_here", "_law_look_here"]
 x_Lletters:qU K mg "_law_letters" uO ["_law_words_here", "_law_look_here"]
 x_Lby:qU K mg "_law_by" Xg ["_law_words_here", "_law_look_here", "_law_room", "_law_book"]
 x_Ltold:qU K mg "_law_told" xD ["_law_script", "_law_town", "_law_most", "_law_wide"]
 x_Lodd_words:qU K mg "_law_odd_words" vA ["_law_script", "_law_town"]
 x_Lodd_look:qU K mg "_law_odd_look" wE ["_law_script", "_law_town"]
 x_is_letter:qU K mg "is_letter" wF ["thing"]
 x_is_word:qU K mg "is_word" wf ["thing"]
 x_is_words:qU K mg "is_words" va ["thing"]
 x_check_words:qU K mg "check_words" kR ["thing"]
 x_is_between:qU K mg "is_between" vB ["thing", "least", "most"]
 x_is_look:qU K mg "is_look" wg ["thing"]
 x_check_look:qU K mg "check_look" vD ["thing"]
 x_letter_at:qU K mg "letter_at" wH ["word", "place"]
 x_pairs:qU K mg "pairs" xH ["words", "look"]
 x_check_room:qU K mg "check_room" vF ["thing"]
 x_is_numbers:qU K mg "is_numbers" jW ["thing", "count", "room"]
 x_check_numbers:qU K mg "check_numbers" kh ["thing", "count", "room"]
 x_told_pairs:qU K mg "told_pairs" vH ["words", "look", "room", "numbers"]
 x_is_odd:qU K mg "is_odd" zM ["walk"]
 x_comes_to:qU K mg "comes_to" uQ ["walk", "numbers", "start"]
 x_bars:qU K mg "bars" Ym ["walk", "room", "numbers"]
 x_letters_of:qU K mg "letters_of" js ["seen"]
 x_other_letter:qU K mg "other_letter" kz ["pair", "letter"]
 x_spread:qU K mg "spread" zO ["seen", "root", "ways"]
 x_ways_of:qU K mg "ways_of" xb ["seen"]
 x_circles_of:qU K mg "circles_of" vJ ["seen", "ways"]
 x_first_odd:qU K mg "first_odd" wN ["circles"]
 x_bar_of:qU K mg "bar_of" uS ["seen", "room", "numbers"]
 x_bar:qU K mg "bar" qbE ["words", "look", "room", "numbers"]
 x_half:qU K mg "half" Yp ["total", "room"]
 x_root_worths:qU K mg "root_worths" kT ["walk", "room", "numbers"]
 x_roots_of:qU K mg "roots_of" jY ["seen", "room", "numbers"]
 x_how_many:qU K mg "how_many" uU ["words", "look", "room", "numbers"]
 x_worths_at:qU K mg "worths_at" wP ["words", "look", "room", "numbers", "at"]
 x_is_worth:qU K mg "is_worth" uV ["thing", "room"]
 x_is_worths:qU K mg "is_worths" jG ["thing", "room"]
 x_check_worths:qU K mg "check_worths" kB ["thing", "room"]
 x_numbered:qU K mg "numbered" uW ["words", "look", "room", "worths"]
 x_is_telling:qU K mg "is_telling" vL ["words", "look", "room", "numbers", "thing"]
 x_place_of:qU K mg "place_of" uX ["words", "look", "room", "numbers", "thing"]
 x_left_out:qU K mg "left_out" uZ ["words", "look", "room", "numbers"]
 x_mended:qU K mg "mended" zS ["words", "look", "room", "numbers"]
 x_Lwhich:qU K mg "_law_which" zT ["_law_e"]
 x_Lask:qU K mg "_law_ask" Ys ["_law_what", "_law_names", "_law_look_here", "_law_room", "_law_numbers"]
variable {cv:Str->Value} {ca:Str->Addr}
theorem qfL {P:Program} {w:World} {base:Heap} {f:Addr} {fd:FuncData} (Z:Zt K mg cv ca) (T:Tx K mg ca) (F:Fun K "law" "law" yx f fd):FnOk P w K mg base (CXk P w) 11 f fd ["_law_script"] (spD K cv [.val] .sh (qbH ca)):=by
 have o_Lcell_at:=WH (P:=P) (w:=w) (base:=base) Z T.x_Lcell_at 
 have o_Lmixed:=Gr (P:=P) (w:=w) (base:=base) Z T.x_Lmixed o_Lcell_at
 have o_Ldraw:=qbr (P:=P) (w:=w) (base:=base) Z T.x_Ldraw o_Lmixed
 have o_Lpick:=qbt (P:=P) (w:=w) (base:=base) Z T.x_Lpick o_Ldraw
 have o_Lword:=qbv (P:=P) (w:=w) (base:=base) Z T.x_Lword o_Ldraw o_Lpick
 have o_Lwords:=Gv (P:=P) (w:=w) (base:=base) Z T.x_Lwords o_Ldraw o_Lpick o_Lword
 have o_Llook:=qbx (P:=P) (w:=w) (base:=base) Z T.x_Llook o_Ldraw
 have o_Lat:=qfe (P:=P) (w:=w) (base:=base) Z T.x_Lat 
 have o_Lseen:=qbz (P:=P) (w:=w) (base:=base) Z T.x_Lseen o_Lat
 have o_Lletters:=WR (P:=P) (w:=w) (base:=base) Z T.x_Lletters o_Lseen
 have o_Lby:=qfg (P:=P) (w:=w) (base:=base) Z T.x_Lby o_Lseen
 have o_Ltold:=qbB (P:=P) (w:=w) (base:=base) Z T.x_Ltold o_Ldraw o_Lwords o_Llook o_Lletters o_Lby
 have o_Lodd_words:=JP (P:=P) (w:=w) (base:=base) Z T.x_Lodd_words o_Lpick
 have o_Lodd_look:=Vw (P:=P) (w:=w) (base:=base) Z T.x_Lodd_look o_Lpick
 have o_is_letter:=Vy (P:=P) (w:=w) (base:=base) Z T.x_is_letter 
 have o_is_word:=Xi (P:=P) (w:=w) (base:=base) Z T.x_is_word o_is_letter
 have o_is_words:=WV (P:=P) (w:=w) (base:=base) Z T.x_is_words o_is_word
 have o_check_words:=Qv (P:=P) (w:=w) (base:=base) Z T.x_check_words o_is_words
 have o_is_between:=JR (P:=P) (w:=w) (base:=base) Z T.x_is_between 
 have o_is_look:=Xk (P:=P) (w:=w) (base:=base) Z T.x_is_look o_is_between
 have o_check_look:=JT (P:=P) (w:=w) (base:=base) Z T.x_check_look o_is_look
 have o_letter_at:=Vz (P:=P) (w:=w) (base:=base) Z T.x_letter_at 
 have o_pairs:=qbD (P:=P) (w:=w) (base:=base) Z T.x_pairs o_check_words o_check_look o_letter_at
 have o_check_room:=JV (P:=P) (w:=w) (base:=base) Z T.x_check_room o_is_between
 have o_is_numbers:=JX (P:=P) (w:=w) (base:=base) Z T.x_is_numbers o_is_between
 have o_check_numbers:=zz (P:=P) (w:=w) (base:=base) Z T.x_check_numbers o_is_numbers
 have o_told_pairs:=JY (P:=P) (w:=w) (base:=base) Z T.x_told_pairs o_check_room o_check_numbers o_pairs
 have o_is_odd:=Gz (P:=P) (w:=w) (base:=base) Z T.x_is_odd 
 have o_comes_to:=WX (P:=P) (w:=w) (base:=base) Z T.x_comes_to 
 have o_bars:=qdt (P:=P) (w:=w) (base:=base) Z T.x_bars o_comes_to o_is_odd
 have o_letters_of:=Ka (P:=P) (w:=w) (base:=base) Z T.x_letters_of 
 have o_other_letter:=gT (P:=P) (w:=w) (base:=base) Z T.x_other_letter 
 have o_spread:=GB (P:=P) (w:=w) (base:=base) Z T.x_spread o_other_letter
 have o_ways_of:=Xl (P:=P) (w:=w) (base:=base) Z T.x_ways_of o_letters_of o_spread
 have o_circles_of:=Ke (P:=P) (w:=w) (base:=base) Z T.x_circles_of 
 have o_first_odd:=VB (P:=P) (w:=w) (base:=base) Z T.x_first_odd o_is_odd
 have o_bar_of:=GC (P:=P) (w:=w) (base:=base) Z T.x_bar_of o_is_odd o_bars o_ways_of o_circles_of o_first_odd
 have o_bar:=qfj (P:=P) (w:=w) (base:=base) Z T.x_bar o_told_pairs o_bar_of
 have o_half:=qdu (P:=P) (w:=w) (base:=base) Z T.x_half 
 have o_root_worths:=Qw (P:=P) (w:=w) (base:=base) Z T.x_root_worths o_comes_to o_half
 have o_roots_of:=WY (P:=P) (w:=w) (base:=base) Z T.x_roots_of o_ways_of o_circles_of o_first_odd o_root_worths
 have o_how_many:=WZ (P:=P) (w:=w) (base:=base) Z T.x_how_many o_pairs o_bar o_roots_of
 have o_worths_at:=VD (P:=P) (w:=w) (base:=base) Z T.x_worths_at o_is_between o_how_many
 have o_is_worth:=Ub (P:=P) (w:=w) (base:=base) Z T.x_is_worth o_is_between o_is_letter
 have o_is_worths:=VE (P:=P) (w:=w) (base:=base) Z T.x_is_worths o_is_worth
 have o_check_worths:=Qb (P:=P) (w:=w) (base:=base) Z T.x_check_worths o_is_worths
 have o_numbered:=Uc (P:=P) (w:=w) (base:=base) Z T.x_numbered o_check_room o_check_worths o_pairs
 have o_is_telling:=Kh (P:=P) (w:=w) (base:=base) Z T.x_is_telling o_numbered o_told_pairs
 have o_place_of:=Ud (P:=P) (w:=w) (base:=base) Z T.x_place_of o_pairs o_letters_of o_is_telling
 have o_left_out:=Ue (P:=P) (w:=w) (base:=base) Z T.x_left_out o_told_pairs
 have o_mended:=GG (P:=P) (w:=w) (base:=base) Z T.x_mended o_told_pairs
 have o_Lwhich:=GH (P:=P) (w:=w) (base:=base) Z T.x_Lwhich 
 have o_Lask:=qdv (P:=P) (w:=w) (base:=base) Z T.x_Lask o_how_many o_worths_at o_place_of o_left_out o_mended o_Lwhich
 exact qfk Z F o_Lpick o_Ltold o_Lodd_words o_Lodd_look o_Lask
def qbU (K:Frag):Sp:=fun vs H Q _=>∃ (a:Addr) (ns:List Int),vs=[.ref a]/\SqL K H a (ns.map V.int)/\∀ H',Q (.bl true) H'
theorem YB {F:Hp}:∀ ns:List Int,IsL K F (ns.map V.int) (ns.map D.int)
 | []=>.nil
 | n::ns=>.cons (.int n) (YB ns)
theorem qgZ (h:GT ca) (vs:List V) (H:Hp) (Q:VK) (E:XK) (q:qbU K vs H Q E):spD K cv [.val] .sh (qbH ca) vs H Q E:=by
 obtain ⟨a,ns,rfl,hs,hq⟩:=q
 refine ⟨H,[scr ns],Same.refl _,⟨.lst hs (YB ns),trivial⟩,cP,?_⟩
 rw [qfH h ns]
 intro v F' H' a1 a2 a3 a4
 have a4:Is K F' v (.bl true):=a4
 cases a4
 exact hq H'
abbrev NsX (K:Frag) (x:Str) (f:Addr):Prop:=nsIn K mainGlobals x=some (some (.ref f))
abbrev CdX (K:Frag) (v:Value) (x:Str):Prop:=codeIn K v x=true
abbrev KpX (K:Frag) (f:Addr):Prop:=keepIn K (.ref f)=true
abbrev LkX (K:Frag) (x:Str) (st:Stmt) (f:Addr) (oc:Value) (od an:Option Addr) (sl:Array (Option Value)) (kV dc pm cd ct:Value):Prop:=K.lookup f=some ⟨oc,od,.func (bJ x x (ue st) (kJ st) (qe st) .none kV dc pm an cd ct),sl⟩
def Dx (K:Frag) (x:Str) (st:Stmt):Prop:=∃ (f:Addr) (oc:Value) (od an:Option Addr) (sl:Array (Option Value)) (kV dc pm cd ct:Value),NsX K x f/\LkX K x st f oc od an sl kV dc pm cd ct/\CdX K cd x/\KpX K f
theorem qX (X:K.In h) (G:h.Ns mainGlobals mg) {st:Stmt} {ps:List Str} (q:Dx K x st) (hb:∀ (kV doc pm:Value) (an:Option Addr) (cdv ct:Value) (us:List Value),us.length=ps.length->bindArgs (bJ x x (ue st) (kJ st) (qe st) .none kV doc pm an cdv ct) ⟨us,[]⟩=pure (ps.zip us):=by
  intro _ _ _ _ _ _ us hl
  first | refine qhq (P:=fun us=>bindArgs _ ⟨us,[]⟩=pure (fh _ us)) hl ?_ | refine qhr (P:=fun us=>bindArgs _ ⟨us,[]⟩=pure (fh _ us)) hl ?_ | refine qhs (P:=fun us=>bindArgs _ ⟨us,[]⟩=pure (fh _ us)) hl ?_ | refine qht (P:=fun us=>bindArgs _ ⟨us,[]⟩=pure (fh _ us)) hl ?_ | refine qhu (P:=fun us=>bindArgs _ ⟨us,[]⟩=pure (fh _ us)) hl ?_ | refine qhR (P:=fun us=>bindArgs _ ⟨us,[]⟩=pure (fh _ us)) hl ?_
  all_goals intros; rfl):qU K mg x st ps:=by
 obtain ⟨f,oc,od,an,sl,kV,dc,pm,cd,ct,a,l,c,k⟩:=q
 exact qdM X G a l c k hb
theorem qfM {l:eX} {w:World} {fa:Addr} (X:K.In h) (G:h.Ns mainGlobals mg) (hfa:mg "law"=some (.ref fa)) {CW C0 C1 C2 C3 C4 C5 C6 C7 C8 C9 C10 C11 C12:Addr} {t_LEAST_PLACE t_MOST_LETTERS t_MOST_PLACE t_MOST_ROOM t_MOST_WORDS:Tok}
  (aW:nsIn K mainGlobals "WordError"=some (some (.ref CW)))
  (a0:nsIn K mainGlobals "NoWords"=some (some (.ref C0)))
  (a1:nsIn K mainGlobals "NoLook"=some (some (.ref C1)))
  (a2:nsIn K mainGlobals "NoNumbers"=some (some (.ref C2)))
  (a3:nsIn K mainGlobals "NoRoom"=some (some (.ref C3)))
  (a4:nsIn K mainGlobals "NoWord"=some (some (.ref C4)))
  (a5:nsIn K mainGlobals "NoWorths"=some (some (.ref C5)))
  (a6:nsIn K mainGlobals "Never"=some (some (.ref C6)))
  (a7:nsIn K mainGlobals "Full"=some (some (.ref C7)))
  (a8:nsIn K mainGlobals "Known"=some (some (.ref C8)))
  (a9:nsIn K mainGlobals "NoPlace"=some (some (.ref C9)))
  (a10:nsIn K mainGlobals "NoLetters"=some (some (.ref C10)))
  (a11:nsIn K mainGlobals "NoText"=some (some (.ref C11)))
  (a12:nsIn K mainGlobals "Nothing"=some (some (.ref C12)))
  (z_ValueError:nsIn K mainGlobals "ValueError"=some none)
  (z_all:nsIn K mainGlobals "all"=some none)
  (z_bool:nsIn K mainGlobals "bool"=some none)
  (z_dict:nsIn K mainGlobals "dict"=some none)
  (z_enumerate:nsIn K mainGlobals "enumerate"=some none)
  (z_int:nsIn K mainGlobals "int"=some none)
  (z_isinstance:nsIn K mainGlobals "isinstance"=some none)
  (z_len:nsIn K mainGlobals "len"=some none)
  (z_list:nsIn K mainGlobals "list"=some none)
  (z_max:nsIn K mainGlobals "max"=some none)
  (z_min:nsIn K mainGlobals "min"=some none)
  (z_range:nsIn K mainGlobals "range"=some none)
  (z_reversed:nsIn K mainGlobals "reversed"=some none)
  (z_set:nsIn K mainGlobals "set"=some none)
  (z_sorted:nsIn K mainGlobals "sorted"=some none)
  (z_str:nsIn K mainGlobals "str"=some none)
  (z_tuple:nsIn K mainGlobals "tuple"=some none)
  (c_LEAST_PLACE:nsIn K mainGlobals "LEAST_PLACE"=some (some (.int (-3) t_LEAST_PLACE)))
  (c_MOST_LETTERS:nsIn K mainGlobals "MOST_LETTERS"=some (some (.int 6 t_MOST_LETTERS)))
  (c_MOST_PLACE:nsIn K mainGlobals "MOST_PLACE"=some (some (.int 2 t_MOST_PLACE)))
  (c_MOST_ROOM:nsIn K mainGlobals "MOST_ROOM"=some (some (.int 99 t_MOST_ROOM)))
  (c_MOST_WORDS:nsIn K mainGlobals "MOST_WORDS"=some (some (.int 6 t_MOST_WORDS)))
  (ex:qbS K [C0,C1,C2,C3,C4,C5,C6,C7,C8,C9,C10,C11,C12] CW=true)
  (sx5:bu K (.ref C5) (.ref C5)=some true)
  (q0:Dx K "_law_cell_at" uL)
  (q1:Dx K "_law_mixed" zK)
  (q2:Dx K "_law_draw" JF)
  (q3:Dx K "_law_pick" JG)
  (q4:Dx K "_law_word" xA)
  (q5:Dx K "_law_words" zL)
  (q6:Dx K "_law_look" JK)
  (q7:Dx K "_law_at" Xf)
  (q8:Dx K "_law_seen" xB)
  (q9:Dx K "_law_letters" uO)
  (q10:Dx K "_law_by" Xg)
  (q11:Dx K "_law_told" xD)
  (q12:Dx K "_law_odd_words" vA)
  (q13:Dx K "_law_odd_look" wE)
  (q14:Dx K "is_letter" wF)
  (q15:Dx K "is_word" wf)
  (q16:Dx K "is_words" va)
  (q17:Dx K "check_words" kR)
  (q18:Dx K "is_between" vB)
  (q19:Dx K "is_look" wg)
  (q20:Dx K "check_look" vD)
  (q21:Dx K "letter_at" wH)
  (q22:Dx K "pairs" xH)
  (q23:Dx K "check_room" vF)
  (q24:Dx K "is_numbers" jW)
  (q25:Dx K "check_numbers" kh)
  (q26:Dx K "told_pairs" vH)
  (q27:Dx K "is_odd" zM)
  (q28:Dx K "comes_to" uQ)
  (q29:Dx K "bars" Ym)
  (q30:Dx K "letters_of" js)
  (q31:Dx K "other_letter" kz)
  (q32:Dx K "spread" zO)
  (q33:Dx K "ways_of" xb)
  (q34:Dx K "circles_of" vJ)
  (q35:Dx K "first_odd" wN)
  (q36:Dx K "bar_of" uS)
  (q37:Dx K "bar" qbE)
  (q38:Dx K "half" Yp)
  (q39:Dx K "root_worths" kT)
  (q40:Dx K "roots_of" jY)
  (q41:Dx K "how_many" uU)
  (q42:Dx K "worths_at" wP)
  (q43:Dx K "is_worth" uV)
  (q44:Dx K "is_worths" jG)
  (q45:Dx K "check_worths" kB)
  (q46:Dx K "numbered" uW)
  (q47:Dx K "is_telling" vL)
  (q48:Dx K "place_of" uX)
  (q49:Dx K "left_out" uZ)
  (q50:Dx K "mended" zS)
  (q51:Dx K "_law_which" zT)
  (q52:Dx K "_law_ask" Ys)
  (q53:Dx K "law" yx) :
  ∃ fd:FuncData,(∀ (s:Shared) (v:Value),BindsTo s fd ⟨[v],[]⟩ [("_law_script",v)])/\∀ base:Heap,K.In base->base.Ns mainGlobals mg->FnOk l.prog w K mg base (CXk l.prog w) 11 fa fd ["_law_script"] (qbU K):=by
 obtain ⟨f53,_,_,_,_,_,_,_,_,_,b_53,l_53,d_53,k_53⟩:=q53
 obtain ⟨f41,b41_⟩:=id q41
 obtain ⟨_,_,_,_,_,_,_,_,_,b_41,_⟩:=b41_
 obtain ⟨f49,b49_⟩:=id q49
 obtain ⟨_,_,_,_,_,_,_,_,_,b_49,_⟩:=b49_
 obtain ⟨f50,b50_⟩:=id q50
 obtain ⟨_,_,_,_,_,_,_,_,_,b_50,_⟩:=b50_
 obtain ⟨f48,b48_⟩:=id q48
 obtain ⟨_,_,_,_,_,_,_,_,_,b_48,_⟩:=b48_
 obtain ⟨f42,b42_⟩:=id q42
 obtain ⟨_,_,_,_,_,_,_,_,_,b_42,_⟩:=b42_
 have e:=hfa.symm.trans (mg_of X G b_53)
 cases e
 obtain ⟨Z,cok⟩:=qgY X G aW a0 a1 a2 a3 a4 a5 a6 a7 a8 a9 a10 a11 a12 z_ValueError z_all z_bool z_dict z_enumerate z_int z_isinstance z_len z_list z_max z_min z_range z_reversed z_set z_sorted z_str z_tuple c_LEAST_PLACE c_MOST_LETTERS c_MOST_PLACE c_MOST_ROOM c_MOST_WORDS ex sx5 b_41 b_49 b_50 b_48 b_42
 have T:Tx K mg (caT [("WordError",CW),("NoWords",C0),("NoLook",C1),("NoNumbers",C2),("NoRoom",C3),("NoWord",C4),("NoWorths",C5),("Never",C6),("Full",C7),("Known",C8),("NoPlace",C9),("NoLetters",C10),("NoText",C11),("Nothing",C12),("how_many",f41),("left_out",f49),("mended",f50),("place_of",f48),("worths_at",f42)]):=⟨qX X G q0,qX X G q1,qX X G q2,qX X G q3,qX X G q4,qX X G q5,qX X G q6,qX X G q7,qX X G q8,qX X G q9,qX X G q10,qX X G q11,qX X G q12,qX X G q13,qX X G q14,qX X G q15,qX X G q16,qX X G q17,qX X G q18,qX X G q19,qX X G q20,qX X G q21,qX X G q22,qX X G q23,qX X G q24,qX X G q25,qX X G q26,qX X G q27,qX X G q28,qX X G q29,qX X G q30,qX X G q31,qX X G q32,qX X G q33,qX X G q34,qX X G q35,qX X G q36,qX X G q37,qX X G q38,qX X G q39,qX X G q40,qX X G q41,qX X G q42,qX X G q43,qX X G q44,qX X G q45,qX X G q46,qX X G q47,qX X G q48,qX X G q49,qX X G q50,qX X G q51,qX X G q52⟩
 have F:=XU (st:=yx) l_53 d_53 k_53
 exact ⟨_,fun s v=>.of_eq rfl,fun base _ _=>(qfL (P:=l.prog) (w:=w) (base:=base) Z T F).imp fun vs H Q E q=>qgZ cok vs H Q E q⟩
theorem qhS {l:eX} {q:Program} {loose:List Str} {XP:(Str->Option Value)->Heap->Prop} {YP:World->Heap->Prop} {d:DefRec} {K:Params->Frag} (hn:l.most=some 63) (hdf:d.params.defaults=[])
  (hY:∀ (w:World) (h:Heap),YP w h->(K w.params).In h)
  (F:∀ (w:World) (mg:Str->Option Value) (fa:Addr) (h:Heap),(K w.params).In h->h.Ns mainGlobals mg->mg d.name=some (.ref fa) ->
   ∃ fd:FuncData,(∀ (s:Shared) (u:Value),BindsTo s fd ⟨[u],[]⟩ [("_law_script",u)])/\∀ base:Heap,(K w.params).In base->base.Ns mainGlobals mg->FnOk l.prog w (K w.params) mg base (CXk l.prog w) 11 fa fd ["_law_script"] (qbU (K w.params))) :
  PySem.W.WalkO q loose XP YP l.row.toRowW d [] (fun f vs=>fF f vs):=
 L2.qcK (n:=63) (k:=11) (x := "_law_script") (CX:=fun w=>CXk l.prog w) (sp:=fun w=>qbU (K w.params)) hn (by decide) hdf ⟨rfl,by decide,by decide⟩ hY F (fun _ _ a ns hl _ hS=>⟨a,ns,rfl,hS,fun _=>rfl⟩) fun w H s e s' z=>by
  obtain ⟨ex,T,C,H',_,_,_,_,_,_,_,_,_,_,q⟩:=z
  exact q.elim
end Kx
open PySem PySem.W PyProof.Rows
set_option maxRecDepth 100000 in
set_option maxHeartbeats 0 in
theorem PySem.Challenge.cw_lookwords_k12_counted_refused_holds : PySem.Challenge.rw_lookwords_k12_counted_refused.Holds := by
  refine Kx.hd ?_
  k_fill
  refine Kx.qhS (l := PySem.Challenge.rw_lookwords_k12_counted_refused) rfl rfl (fun w h Y => PySem.W.kIn_of Y) ?F
  case F =>
    intro w mg fa h KX G hmg
    refine' Kx.qfM KX G hmg ?_ ?_ ?_ ?_ ?_ ?_ ?_ ?_ ?_ ?_ ?_ ?_ ?_ ?_ ?_ ?_ ?_ ?_ ?_ ?_ ?_ ?_ ?_ ?_ ?_ ?_ ?_ ?_ ?_ ?_ ?_ ?_ ?_ ?_ ?_ ?_ ?_ ?_ ?_ ?_ ?_ ?_ ?_ ?_ ?_ ?_ ?_ ?_ ?_ ?_ ?_ ?_ ?_ ?_ ?_ ?_ ?_ ?_ ?_ ?_ ?_ ?_ ?_ ?_ ?_ ?_ ?_ ?_ ?_ ?_ ?_ ?_ ?_ ?_ ?_ ?_ ?_ ?_ ?_ ?_ ?_ ?_ ?_ ?_ ?_ ?_ ?_ ?_ ?_ ?_ ?_ ?_
    all_goals try first | k_is | exact ⟨_, _, _, _, _, _, _, _, _, _, by unfold Kx.NsX; k_is, by unfold Kx.LkX; k_is, by unfold Kx.CdX; k_is, by unfold Kx.KpX; k_is⟩ | kernel_rfl

