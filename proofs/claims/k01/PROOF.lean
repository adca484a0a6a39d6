import PyProof.Rows.All
import KE.KTryMore
import KE.KRevSl
import PySem.Challenge.RW_lookwords_k01_words
open Option renaming some→d4,none→d6
open PySem renaming Value→d5,Shared→d9,starEach→eh,mainGlobals→ei,wpAny_bind→ej,wpAny_pure→et,wpAny→ez,bootBuiltins→eG,Program→eH,World→eI,compareOp→eJ,Around→eZ,backTo→e9,sizeLine_eq→ff,attributeBase→fg,keywordEach→fh,OsState→fj,wpAny_truthy_bool→fk,binaryOp→fq,cLine→fz,FuncData→fA,Keyword→fB,NameKind→fC,codeAny→fE,wpAny_Call_Name_kw→fF,bindArgs→fG,wpAny_newObj_type→fH,wpAny_mono→fI,backToKw→fJ,call_meets→fK,codeAny_mono→fM,Scope→fN,behindInMarks→fO,importedModules→fP,wpAny_passesOwn→fQ,codeAny_builtin→fR,treeTable→fS,foldedSetIterable→fT,scanBound→fV,letOwnedTupleGo→fW,swapsWith→fY,Params→fZ,recursionLimit→f9,IsPart→g0,SetTable→g7,wpAny_holding→g8,relayAll→hJ,builtinsNs→hZ,sysModules→ia,concat_meets→ib,typeIs_int→ic,typeOf→ig,GenState→ij,DictEntry→im,BindsTo→ip,cellsFrom→iq,callerA→ir,valueAt→iu,wpAny_call→iA,wpAny_rule→iC,getItem→iD
open Bool renaming false→d7,true→d8
open PySem.W renaming mg_none_of→fm,boot_heap→fy,mg_of→fD,behindTheImports→fL,keepIn→fU,findIn→g9,boot_drawn→hV,topFrame→ii,looseW→iw,codeIn→iB
open PyProof.Rows renaming envOfC→fw,AllBare→fX
open List renaming mem_cons→aa,mem_cons_of_mem→ac,getElem?_set_ne→af,size_toArray→ah,length_append→ai,replicate→aj,getElem?_eq_some_iff→ak,getElem?_set_self→ap,length_cons→aw,length_map→ay,mem_append_right→aC,mem_map→aF,nodup_cons→aH,mem_cons_self→aI,map_cons→aJ,all_eq_true→aL,getElem?_map→aM,filterMap_cons→aN,mem_append→aP,append_nil→aS,getElem?_eq_getElem→aU,length_nil→aX,range→aZ,mem_singleton→bg,getElem?_replicate→bj,getElem?_append_right→bn,getElem?_eq_none_iff→bp,map_nil→bt,mem_append_left→bu,replicate_zero→bA,getElem?_append_left→bD,replicate_succ→bM,lookup_cons→bP,find?_cons→bS,length_replicate→bT,append_assoc→bV,flatten_cons→bX,mem_range→bY,mem_of_getElem?→bZ,length_take→cf,not_mem_nil→cg,getElem?_cons_zero→cz,cons_lt_cons_iff→cE,cons_append→cH,mem_iff_getElem→cQ,zip→cS,mem_filter→cT,of_mem_zip→cU,length_set→cV,nil_append→cW,mem_filterMap→c8,nodup_nil→da,any_cons→dk,all_cons→dm,getElem_inj→dn,getElem_mem→dr,countP_cons→dt,map_map→dv,foldl_cons→dB
open PySem.Heap renaming get?_push_of_some→ae,lt_size→am,get?_push_size→aq,SameBut→bB,size_push→dE
open Nat renaming le_refl→ao,lt_of_lt_of_le→au,ne_of_lt→aE,le_trans→br,lt_irrefl→bG,zero_le→cw,sub_self→cD,le_of_lt→cY,le_of_eq→dP,le_succ→dX
open Option renaming some→ax,map_eq_some_iff→aR,bind_eq_some_iff→bv,getD_some→dq
open Bool renaming and_eq_true→aA,false_ne_true→bq,not_eq_true'→dh
open PySem.W renaming findIn→aD,hideAll→aK,emptyDict→bb,fnOf→bf,kitOne→bo,instObj→bw,kia_one→bE,hideAll_none→bF,hideAll_get→bK,plainGet→bO,exmOne→ce,excIn→cm,of_hideAll→cq,callWith_K→cu,hasDictIn→cA,cellsFrom_some→cB,plainGet_of→cX,isFn→cZ,lookIn→c9,methodObj→df,plainOver→dg,makesIn→dw,OpenLaw→dA
open PySem.Value renaming bool→aG,ref→bi,isStrOf_shape→cj,type→cF,builtin→cK,none→c6,isStrOf→dj,int→dF,str→dG
open PySem renaming mem_of_lookup→aO,call→dY
open PySem.Builtin.Slice renaming sliceAdjust→aQ,slicePlaces→ci
open PySem.NameKind renaming free→aV
open PySem.Str renaming ofString→aY,length→du,empty→dS
open False renaming elim→ba
open Ne renaming symm→be
open PySem.F renaming called_set→bh,plainAttrs_list→bQ,slot_int_rmul→bU,args_tuple_add_2→ck,entry_tuple_add→cx,slot_tuple_add→cC
open ForInStep renaming yield→bx
open PySem.Builtin.Frozenset renaming updateFrom→bz
open PySem.Builtin.List renaming listTooLong→bH
open PySem.Builtin.Tuple renaming tupleExact→bI
open PyProof.Rows renaming slot_tuple_getitem→bJ
open Array renaming length_toList→bL,mk→dD
open PySem.SetTable renaming grown→bR,laid→dJ
open PySem.Builtin.Str renaming strSliceIndices→bW
open PyProof.Rows.F renaming plain_set_update_loop→cy
open True renaming intro→cG
open Sum renaming inl→cI,inr→cJ
open Prod renaming ext→cM,mk→dO
open PySem.Calls renaming evalArgs_plain→cP
open PySem.Around renaming under_plainId→cR,under→dQ
open Or renaming inl→db,inr→dU
open PySem.PassesOwn renaming leaving→di
open PySem.Paired renaming length→dH
open PySem.W.KF renaming type_class→dI
open PySem.Txt renaming partition→dL
open PySem.Obj renaming putSet→dN
open PySem.Code renaming isFrame→dR
open PySem.SeqAt renaming EqAt→dZ
theorem Aa {c:Prop}{h:Decidable c}(k:c){a:Sort _}{t e:a}:ite c t e=t:=if_pos k
theorem Ab {c:Prop}{h:Decidable c}(k:¬c){a:Sort _}{t e:a}:ite c t e=e:=if_neg k
theorem Ac {p:Prop}[h:Decidable p](k:¬p):decide p=false:=decide_eq_false k
theorem Ad {p:Prop}[h:Decidable p](k:decide p=true):p:=of_decide_eq_true k
noncomputable section
open PySem.W (Frag nsIn keepIn codeIn mg_of mg_none_of)
set_option Elab.async false
set_option linter.all false
set_option maxRecDepth 100000
namespace Kx
noncomputable section
open PySem PySem.W PySem.Calls PyProof.Rows
noncomputable def zP:Pos:=⟨0,0,0,0⟩
noncomputable def anV:Option d5:=d4 (.ref 6)
noncomputable def hA (P:fZ):List Obj:=(fy P).objs.toList++[⟨.type "tuple",d6,.seq #[] 0,#[]⟩,⟨.none,d6,.fields #[],#[]⟩,
 ⟨.type "code",d6,.fields #[.str "<module>" 182,.str "<module>" 183,.str "/claim/cut.py" 184,.int 1 0,.int 0 0,.int 0 0,.int 0 0,.int 0 0,.ref 11,.bool d7,.int 181 0,.ref 12,.none,.none,.none,.none,.int 185 0,.int 1 0,.str "/claim/cut.py" 186],#[]⟩,
 ⟨.type "frame",d6,.plain,#[d4 (.ref 13),d4 (.ref 3),d4 (.ref 3),d6,d4 (.str "__main__" 164),d6,d4 (.ref 0)]⟩]
noncomputable def enP (p:eH):Env:={ scope:=p.main.scope,locals:=mainNs,globals:=mainNs,cells:=[],code:=.ref 13,frame:=d4 14 }
noncomputable def cdP (p:eH):Code:=.body (fL p) (enP p)
noncomputable def trA:List Obj->Nat->BT->BT
 | [],_,t=>t
 | o::l,i,t=>trA l (i+1) (t.ins i o)
noncomputable def SA (w:eI) (os:fj):SharedT:=⟨trA (hA w.params) 0 .nil,15,(fy w.params).life,dD [],hV,187,os⟩
noncomputable def kH (P:fZ) (s:Str) (t:Nat) (v:d5):im:=⟨PyData.keyHash P s,.str s t,v⟩
noncomputable def eM:d5:=.str "lookwords.errors" 194
noncomputable def eU:Arguments:=⟨[],[⟨"k",d6,⟨1,10,1,11⟩⟩],d6,[],[],d6,[]⟩
noncomputable def eX:FuncBody:=.stmts [.While (.Constant (.bool d8) 0 ⟨2,10,2,14⟩) [.Pass ⟨3,8,3,12⟩] [] ⟨2,4,3,12⟩]
noncomputable def eY:fN:=⟨.function,[("k",.local)],d7,d7,[]⟩
noncomputable def eT (a:List d5):Obj:=⟨.type "tuple",d6,.seq ⟨a⟩ 0,#[]⟩
noncomputable def eF (c:d5) (a:List d5):Obj:=⟨c,d6,.fields ⟨a⟩,#[]⟩
noncomputable def eB:d5:=.type "builtin_function_or_method"
noncomputable def eD (a:List im) (n:Nat):Obj:=⟨.type "dict",d6,.dict ⟨a⟩ n,#[]⟩
noncomputable def eW:List Obj:=[eT [],eF .none [],eT [.str "k" 190],eT [],⟨.none,d6,.func ⟨"_wall", "_wall",eU,eX,eY,0,[],.none,.none,.none,.none,d6,.none,.none,0⟩,#[]⟩,
 eF (.type "code") [.str "_wall" 187,.str "_wall" 188,.str "/claim/cut.py" 189,.int 1 0,.int 1 0,.int 0 0,.int 0 0,.int 3 0,.ref 15,.bool d8,.int 181 0,.ref 16,.none,.ref 17,.ref 18,.ref 19,.int 191 0,.int 1 0,.str "/claim/cut.py" 192],
 ⟨.type "function",d6,.func ⟨"_wall", "_wall",eU,eX,eY,3,[],.none,.none,.none,.str "__main__" 164,d6,.ref 20,.none,0⟩,#[]⟩]
noncomputable def eA (P:fZ) (s:Str) (b:d5) (n t l:Nat):List Obj:=[eT [b],eF eB [.builtin "type.__prepare__",.type "type"],
 eD [kH P "__module__" (t+7) eM,kH P "__qualname__" (t+9) (.str s (t+8)),kH P "__firstlineno__" (t+11) (.int l (t+10)),kH P "__static_attributes__" (t+12) (.ref (n+7))] 4,
 eT [],eF .none [],eF (.type "code") [.str s (t+2),.str s (t+3),.str "/claim/cut.py" (t+4),.int l 0,.int 0 0,.int 0 0,.int 0 0,.int 0 0,.ref (n+3),.bool d7,.int 181 0,.ref (n+4),.none,.none,.none,.none,.int ((t+5:Nat):Int) 0,.int l 0,.str "/claim/cut.py" (t+6)],
 ⟨.type "frame",d6,.plain,#[d4 (.ref (n+5)),d4 (.ref 3),d4 (.ref (n+2)),d6,d4 eM,d6,d4 (.ref 0)]⟩,eT []]
noncomputable def eC (s:Str) (b:d5) (n t:Nat) (m sub:List d5):Obj:=⟨.type "type",d6,.cls { name:=s,bases:=[b],mro:=.ref (n+9)::m,ns:=n+8,qualname:=s,subclasses:=sub },#[d4 (.ref n),d6,d4 (.str s t),d4 (.str s (t+8)),d4 (.builtin "ValueError.__new__"),d4 (.bool d8)]⟩
noncomputable def eS (a:Nat):List Obj:=[eF (.type "super") [.ref a,.ref a,.ref a],eF eB [.builtin "object.__init_subclass__",.ref a]]
noncomputable def eK (P:fZ) (t l:Nat) (n:Nat):List im:=[kH P "__module__" (t+7) eM,kH P "__firstlineno__" (t+11) (.int l (t+10)),kH P "__static_attributes__" (t+12) (.ref (n+7))]
noncomputable def eV:List d5:=[.type "ValueError",.type "Exception",.type "BaseException",.type "object"]
noncomputable def eL (P:fZ):List Str->Nat->Nat->Nat->List Obj
 | [],_,_,_=>[]
 | s::r,n,t,l=>eA P s (.ref 31) n t l++eD (eK P t l n++[kH P "__doc__" (t+13) .none]) 2::eC s (.ref 31) n t (.ref 31::eV) []::eS (n+9)++eL P r (n+12) (t+16) (l+2)
noncomputable def eE (P:fZ):List Str->Nat->Nat->List im
 | [],_,_=>[]
 | s::r,n,t=>kH P s (t+15) (.ref (n+9))::eE P r (n+12) (t+16)
noncomputable def eR:Nat->Nat->List d5
 | 0,_=>[]
 | k+1,n=>.ref n::eR k (n+12)
noncomputable def eQ:Nat->Nat->Nat->List d5
 | 0,_,_=>[]
 | k+1,n,l=>.int l 0::.int 0 0::.ref n::eQ k (n+12) (l+2)
noncomputable def eO (P:fZ) (L:List Str):Obj:=match (boot_o_3 P).data with
 | .dict a _=>eD (kH P "__name__" 165 eM::a.toList.drop 1++kH P "_wall" 193 (.ref 21)::kH P "WordError" 213 (.ref 31)::eE P L 35 214) (L.length+11)
 | _=>eT []
noncomputable def hC (P:fZ) (L:List Str):List Obj:=(hA P).take 3++eO P L::((hA P).drop 4).take 8++eF .none (.int 1 0::.int 0 0::.ref 20::.int 5 0::.int 0 0::.ref 27::eQ L.length 40 7)::(hA P).drop 13++eW ++
 eA P "WordError" (.type "ValueError") 22 196 5++eD (eK P 196 5 22++[kH P "__weakref__" 210 (.ref 32),kH P "__doc__" 211 .none]) 3::eC "WordError" (.type "ValueError") 22 196 eV (eR L.length 44) ::
 eF (.type "getset_descriptor") [.str "__weakref__" 209,.ref 31,.builtin "ExceptionGroup.__weakref__",.none]::eS 31++eL P L 35 214 7
noncomputable def SC (L:List Str) (w:eI) (os:fj):SharedT:=⟨trA (hC w.params L) 0 .nil,12 * L.length+35,(fy w.params).life,dD [],hV,16 * L.length+214,os⟩
noncomputable def zC (L:List Str):Pos:=⟨2 * L.length+5,0,2 * L.length+6,8⟩
noncomputable def QU (L:List Str) (p:eH) (w:eI) (M:Nat) (os:fj):Option (Flow×Code×d9):=
 (segRunT fS p w 11 anV 1 M (SC L w os) (piecesOf ((fL p).drop (L.length+3)) (enP p) (cdP p) (zC L) [ii zP])).bind λr=>
  (topRun fS p w 11 anV 5 r.2.1.abs (restOf [] (enP p) (cdP p) r.2.2.2 [ii zP])).map λs=>(r.1,r.2.2.1,s)
abbrev Yy (p:eH) (w:eI) (x:Flow×Code×d9):=
 (x.1,x.2.1,(staticsOk (fP p.main.body) (fy w.params) x.2.2.heap&&namesBound p x.2.2.heap&&gensDone x.2.2&&laidKept (fy w.params) x.2.2.heap))
theorem left_T {L:List Str} {p q:eH} {loose:List Str} {Xt:d9->Bool} {α:Type} {Yf:d9->α} {Ya:eI->α} {N M:Nat}
  (e:opening p=plainProg p.main.scope.names) (hN:Nat.ble 600 N=d8) (f:∀ s,fenceModules? p s=d4 s)
  (size:∀ w:eI,((fy w.params).isNs ei&&(dD []:Array ij).size == 0,(fy w.params).objs.size,(fy w.params).nsMap ei "__annotations__")=(d8,11,anV))
  (pre:∀ (w:eI) (os:fj),topGo fS p w 11 anV 12 ⟨fy w.params,dD [],hV,boot_toks,os⟩ (topStub p)=d4 ((SA w os).abs,⟨denote fS (cdP p),cdP p,zP,[ii zP]⟩))
  (blk:∀ (w:eI) (os:fj),segRun fS p w 11 anV 1 1 (SA w os).abs (blockOf (fL p) (enP p) (cdP p) zP [ii zP])=d4 (.next,(SA w os).abs,cdP p,zP))
  (le:Nat.ble (12+(1+(3500+(M+5)))) N=d8)
  (m6:∀ (w:eI) (os:fj),segRunT fS p w 11 anV 1 3500 (SA w os) (piecesOf ((fL p).take (L.length+3)) (enP p) (cdP p) zP [ii zP])=d4 (.next,SC L w os,cdP p,zC L))
  (m0:∀ (w:eI) (os:fj),(QU L p w M os).map (Yy p w)=d4 (.next,cdP p,d8))
  (m1:∀ (w:eI) (os:fj),(QU L p w M os).map (λx=>seen ((recsOf q).map (·.name)) (ownsOf q) [] { x.2.2 with gens:=#[] })=d4 (expectedOf q))
  (m3:∀ (w:eI) (os:fj),(QU L p w M os).map (λx=>x.2.2.heap.bltView)=d4 bltViewBooted)
  (m4:∀ (w:eI) (os:fj),(QU L p w M os).map (λx=>x.2.2.heap.keysOk (iw q loose) ((recsOf q).map (·.name)) ((litsOf q).map (·.1)) ((clssOf q (iw q loose)).map (·.name))&&x.2.2.heap.accountedOkI (fP p.main.body)&&x.2.2.heap.isNs ei&&x.2.2.heap.isNs hZ&&tablesOk q x.2.2.heap&&Xt x.2.2&&x.2.2.gens.size == 0)=d4 d8)
  (m5:∀ (w:eI) (os:fj),(QU L p w M os).map (λx=>(tabsOk q x.2.2,pinSeenD q (drecsOf q) x.2.2,plainSeenE q (iw q loose) x.2.2))=d4 (d8,pinGoodD (drecsOf q),plainGoodE q (iw q loose)))
  (m7:∀ (w:eI) (os:fj),(QU L p w M os).map (λx=>(plainSeenD q loose x.2.2,wideSeen q x.2.2,clsSeenW q loose x.2.2))=d4 (plainGoodD q loose,wideGood q,clsGoodW q loose))
  (m2:∀ (w:eI) (os:fj),(QU L p w M os).map (λx=>Yf x.2.2)=d4 (Ya w)):LeftO p q loose Xt Yf Ya N:=λw=>by
 obtain ⟨⟨h,gs,d,k,os⟩,a,a'⟩:=aR.mp (boot_open e hN f w)
 obtain ⟨rfl,rfl,rfl,rfl⟩:h=fy w.params/\gs=dD []/\d=hV/\k=boot_toks:=by simpa using a'
 obtain ⟨x,hx,hl⟩:=aR.mp (m0 w os)
 have l2:openSeen q loose (fP p.main.body) Xt d8 x.2.2=openGood q loose:=by
  have a1:=m1 w os
  have a3:=m3 w os
  have a4:=m4 w os
  have a5:=m5 w os
  have a7:=m7 w os
  rw [hx] at a1 a3 a4 a5 a7
  have b5:=dO.inj (ax.inj a5)
  have c5:=dO.inj b5.2
  have b7:=dO.inj (ax.inj a7)
  have c7:=dO.inj b7.2
  exact cM (ax.inj a1) (cM (ax.inj a3) (cM (ax.inj a4) (cM b5.1 (cM c5.1 (cM c5.2 (cM b7.1 (cM c7.1 c7.2)))))))
 obtain ⟨y,hy,hY⟩:=aR.mp (m2 w os)
 obtain rfl:y=x:=ax.inj (hy.symm.trans hx)
 obtain ⟨r,hr,hz⟩:=bv.mp hx
 obtain ⟨s,hs,rfl⟩:=aR.mp hz
 obtain ⟨fl,st,co,po⟩:=r
 unfold Yy at hl
 simp only [dO.injEq] at hl
 obtain ⟨rfl,rfl,l1⟩:=hl
 have t1:=piece_app (rest:=[]) (segRun_of hr) hs
 rw [aS] at t1
 have t1:=piece_app (segRun_of (m6 w os)) t1
 rw [List.take_append_drop] at t1
 have t2:=piece_block (blk w os) t1
 have t3:=topRun_mono (N - (12+(1+(3500+(M+5))))) _ _ _ _ (go_top (pre w os) t2)
 rw [show 12+(1+(3500+(M+5)))+(N - (12+(1+(3500+(M+5)))))=N by have:=Nat.le_of_ble_eq_true le; omega] at t3
 obtain ⟨z1,z2,z3⟩:_/\_/\_:=by simpa only [dO.injEq] using size w
 have t:topFrom fS p w N ⟨fy w.params,dD [],hV,boot_toks,os⟩=d4 s:=by
  unfold topFrom
  dsimp only
  rw [z1,z2,z3,t3]
  show (match staticsOk (fP p.main.body) (fy w.params) s.heap&&namesBound p s.heap&&gensDone s&&laidKept (fy w.params) s.heap with | true=>_ | false=>_)=_
  rw [l1]
 unfold openEnds
 rw [a]
 show (topFrom fS p w N _).map _=_
 rw [t]
 exact congrArg d4 (cM l2 hY)
end
end Kx
noncomputable section
open PySem PySem.W PyProof.Rows
noncomputable def Kx.vq:eH:=view PySem.Challenge.pw_lookwords_k01_words [0,2,3,4,5,6,7,8,9,10,11,13,14,15,16,17,18,19,20,21,22,23,24,25,26,27,28,29,30,31,32,34,35,36,37,38,39,41,42,43,44,45,46,47,48,49,50,51,52,53,54,55,56,57,58,59,61,62,63,64,65,66,67,68,69,70,71,72,73,74,75,76,77,79,81,82,83,84,85,86,87,88,89,90,91,92,93]
noncomputable def Kx.eN:List Str:=["NoWords", "NoLook", "NoNumbers", "NoRoom", "NoWord", "NoWorths", "Never", "Full", "Known"]
noncomputable def Kx.xt (s:d9):Bool:=xlAt Kx.vq [] s&&recOk (RowW.records (OpenRow.toRowW (OpenLaw.row PySem.Challenge.rw_lookwords_k01_words))) s
theorem Kx.m6:∀ (w:eI) (os:fj),segRunT fS PySem.Challenge.pw_lookwords_k01_words w 11 Kx.anV 1 3500 (Kx.SA w os) (piecesOf ((fL PySem.Challenge.pw_lookwords_k01_words).take (Kx.eN.length+3)) (Kx.enP PySem.Challenge.pw_lookwords_k01_words) (Kx.cdP PySem.Challenge.pw_lookwords_k01_words) Kx.zP [ii Kx.zP])=d4 (.next,Kx.SC Kx.eN w os,Kx.cdP PySem.Challenge.pw_lookwords_k01_words,Kx.zC Kx.eN):=by intro w os; kernel_rfl
theorem Kx.m0:∀ (w:eI) (os:fj),(Kx.QU Kx.eN PySem.Challenge.pw_lookwords_k01_words w 15000 os).map (Kx.Yy PySem.Challenge.pw_lookwords_k01_words w)=d4 (.next,Kx.cdP PySem.Challenge.pw_lookwords_k01_words,d8):=by intro w os; kernel_rfl
theorem Kx.m1:∀ (w:eI) (os:fj),(Kx.QU Kx.eN PySem.Challenge.pw_lookwords_k01_words w 15000 os).map (λx=>seen ((recsOf Kx.vq).map (·.name)) (ownsOf Kx.vq) [] { x.2.2 with gens:=#[] })=d4 (expectedOf Kx.vq):=by intro w os; kernel_rfl
theorem Kx.m3:∀ (w:eI) (os:fj),(Kx.QU Kx.eN PySem.Challenge.pw_lookwords_k01_words w 15000 os).map (λx=>x.2.2.heap.bltView)=d4 (bltViewBooted):=by intro w os; kernel_rfl
theorem Kx.m4:∀ (w:eI) (os:fj),(Kx.QU Kx.eN PySem.Challenge.pw_lookwords_k01_words w 15000 os).map (λx=>x.2.2.heap.keysOk (iw Kx.vq []) ((recsOf Kx.vq).map (·.name)) ((litsOf Kx.vq).map (·.1)) ((clssOf Kx.vq (iw Kx.vq [])).map (·.name))&&x.2.2.heap.accountedOkI (fP PySem.Challenge.pw_lookwords_k01_words.main.body)&&x.2.2.heap.isNs ei&&x.2.2.heap.isNs hZ&&tablesOk Kx.vq x.2.2.heap&&Kx.xt x.2.2&&x.2.2.gens.size == 0)=d4 (d8):=by intro w os; kernel_rfl
theorem Kx.m5:∀ (w:eI) (os:fj),(Kx.QU Kx.eN PySem.Challenge.pw_lookwords_k01_words w 15000 os).map (λx=>(tabsOk Kx.vq x.2.2,pinSeenD Kx.vq (drecsOf Kx.vq) x.2.2,plainSeenE Kx.vq (iw Kx.vq []) x.2.2))=d4 (d8,pinGoodD (drecsOf Kx.vq),plainGoodE Kx.vq (iw Kx.vq [])):=by intro w os; kernel_rfl
theorem Kx.m7:∀ (w:eI) (os:fj),(Kx.QU Kx.eN PySem.Challenge.pw_lookwords_k01_words w 15000 os).map (λx=>(plainSeenD Kx.vq [] x.2.2,wideSeen Kx.vq x.2.2,clsSeenW Kx.vq [] x.2.2))=d4 (plainGoodD Kx.vq [],wideGood Kx.vq,clsGoodW Kx.vq []):=by intro w os; kernel_rfl
local macro_rules | `(tactic| o_head $H) => `(tactic| (refine holds_open (q := Kx.vq) (loose := []) (Xt := Kx.xt) (XP := XL Kx.vq []) (Yf := Hook.obs $H) (Ya := Hook.val $H) (YP := Hook.says $H) (N := 20000) ?hl (Hook.of $H) (Hook.keeps $H) (fun s e => xl_of s (Bool.and_eq_true_iff.mp e).1) XL.keeps (by rfl) (by rfl) (by rfl) (fun s e => recFacts_of (Bool.and_eq_true_iff.mp e).2) (by rfl) (by first | assumption | decide +kernel) (by decide +kernel) ⟨rfl, rfl, rfl, rfl, rfl, by decide +kernel⟩ ?hw ?hc; (case hl => refine Kx.left_T (p := PySem.Challenge.pw_lookwords_k01_words) (M := 15000) ?e rfl ?f ?s ?p ?b rfl Kx.m6 Kx.m0 Kx.m1 Kx.m3 Kx.m4 Kx.m5 Kx.m7 ?m; (case e => kernel_rfl); (case f => intro s; kernel_rfl); (case s => intro w; kernel_rfl); (case p => intro w os; kernel_rfl); (case b => intro w os; kernel_rfl); (case m => intro w os; kernel_rfl))))
set_option maxHeartbeats 0 in
open_top Kx.hd for PySem.Challenge.rw_lookwords_k01_words
end
namespace L2
open PySem PySem.Spec PyProof.Rows
abbrev Key:=Sum Int Str
noncomputable def QV:Key->d5->Bool
 | .inl k,v=>Value.isInt k v
 | .inr x,v=>dj x v
noncomputable def qcf (w:eI):Key->Int
 | .inl k=>hashInt k
 | .inr x=>hashStr w x
theorem qN:∀ {k:Key} {v:d5},QV k v=d8->(∃ i t,k=cI i/\v=dF i t)\/(∃ x t,k=cJ x/\v=dG x t)
 | .inl i,v,h=>by obtain ⟨t,e⟩:=Value.isInt_shape (k:=i) (v:=v) h;exact .inl ⟨i,t,rfl,e⟩
 | .inr x,v,h=>by obtain ⟨t,e⟩:=cj (x:=x) (v:=v) h;exact .inr ⟨x,t,rfl,e⟩
theorem JP (i:Int) (t:Tok):QV (.inl i) (.int i t)=true:=by simp [QV,Value.isInt]
theorem JQ (x:Str) (t:Tok):QV (.inr x) (.str x t)=true:=by simp [QV,dj]
theorem ZB (a b:Int):decide ((cI a:Key)=cI b)=(a == b):=by
 by_cases e:a=b;·subst e; simp
 ·have h:¬(cI a:Key)=cI b:=λq=>e (cI.inj q);rw [Ac h];exact (beq_eq_false_iff_ne.mpr e).symm
theorem ZC (a b:Str):decide ((cJ a:Key)=cJ b)=decide (a=b):=by
 by_cases e:a=b;·subst e; simp
 ·have h:¬(cJ a:Key)=cJ b:=λq=>e (cJ.inj q);rw [Ac h,Ac e]
theorem ZD (a:Int) (b:Str):decide ((cI a:Key)=cJ b)=false:=Ac (λq=>nomatch q)
theorem ZE (a:Str) (b:Int):decide ((cJ a:Key)=cI b)=false:=Ac (λq=>nomatch q)
noncomputable def jM (prog:eH) (w:eI):PySem.KeyKind prog w Key where
 is:=QV
 hash:=qcf w
 inj:=λv a b g d=>by
  rcases qN g with ⟨i,t,rfl,rfl⟩ | ⟨x,t,rfl,rfl⟩
  ·rcases qN d with ⟨j,u,rfl,e⟩ | ⟨y,u,rfl,e⟩
   ·injection e with e1 _; rw [e1]
   ·exact nomatch e
  ·rcases qN d with ⟨j,u,rfl,e⟩ | ⟨y,u,rfl,e⟩
   ·exact nomatch e
   ·injection e with e1 _; rw [e1]
 byValue:=λk v h=>by rcases qN h with ⟨i,t,rfl,rfl⟩ | ⟨x,t,rfl,rfl⟩ <;> rfl
 pyHash:=λc h=>by
  rcases qN c with ⟨i,t,rfl,rfl⟩ | ⟨x,t,rfl,rfl⟩
  ·exact wpAny_pyHash_int h
  ·exact wpAny_pyHash_str h
 eqBool:=λf c h=>by
  rcases qN f with ⟨i,t,rfl,rfl⟩ | ⟨x,t,rfl,rfl⟩
  ·rcases qN c with ⟨j,u,rfl,rfl⟩ | ⟨y,u,rfl,rfl⟩
   ·rw [ZB] at h; exact wpAny_eqBool_int h
   ·rw [ZD] at h; exact SeqAt.EqAt.int_str i t y u _ _ _ _ h
  ·rcases qN c with ⟨j,u,rfl,rfl⟩ | ⟨y,u,rfl,rfl⟩
   ·rw [ZE] at h; exact SeqAt.EqAt.str_int x t j u _ _ _ _ h
   ·rw [ZC] at h; exact wpAny_eqBool_str h
 «strs»:=λk x t v h=>by
  rcases qN h with ⟨i,u,rfl,e⟩ | ⟨y,u,rfl,e⟩
  ·exact nomatch e
  ·injection e with e1 _;subst e1;cases v <;> rfl
theorem gc (prog:eH) (w:eI) (i:Int) (t:Tok):(jM prog w).is (.inl i) (.int i t)=true:=JP i t
theorem ge (prog:eH) (w:eI) (x:Str) (t:Tok):(jM prog w).is (.inr x) (.str x t)=true:=JQ x t
inductive V where
 | non | bl (b:Bool) | int (i:Int) | str (x:Str) | byt (b:Array UInt8) | flt (b:UInt64) | ref (a:Addr) | ty (n:String)
 deriving DecidableEq
def RelV:V->d5->Prop
 | .non,u=>u=c6
 | .bl b,u=>u=aG b
 | .int i,u=>∃ t,u=dF i t
 | .str x,u=>∃ t,u=dG x t
 | .byt b,u=>∃ t,u=Value.bytes b t
 | .flt b,u=>∃ t,u=Value.float b t
 | .ref a,u=>u=bi a
 | .ty n,u=>u=cF n
abbrev Vals:List V->List d5->Prop:=Paired RelV
variable {xs:List V} {us:List d5}
theorem Vals.length (r:Vals xs us):xs.length=us.length:=dH r
theorem Vals.get:∀ {xs:List V} {us:List d5} {i:Nat} {x:V},Vals xs us->xs[i]?=d4 x->∃ u,us[i]?=d4 u/\RelV x u
 | _,_,_,_,.nil,e=>by simp at e
 | _,_,0,_,.cons r _,e=>by simp at e; subst e; exact ⟨_,rfl,r⟩
 | _,_,i+1,x,.cons _ t,e=>by obtain ⟨u,h1,h2⟩:=Vals.get (i:=i) (x:=x) t (by simpa using e);exact ⟨u,by simpa using h1,h2⟩
theorem Vals.append:∀ {xs ys:List V} {us ws:List d5},Vals xs us->Vals ys ws->Vals (xs++ys) (us++ws)
 | _,_,_,_,.nil,s=>s
 | _,_,_,_,.cons r t,s=>.cons r (Vals.append t s)
theorem Vals.none_of:∀ {xs:List V} {us:List d5} {i:Nat},Vals xs us->xs[i]?=d6->us[i]?=none:=λ{xs us i} r e=>by have h1:=r.length;have h2:xs.length<=i:=bp.mp e;exact bp.mpr (by lia)
def RelO:Option V->Option d5->Prop
 | some v,d4 u=>RelV v u
 | none,d6=>True
 | _,_=>False
def KV {κ:Type}:List (κ×V)->List (κ×d5)->Prop:=Paired λ(p:κ×V) (q:κ×d5)=>p.1=q.1/\RelV p.2 q.2
noncomputable def kV:Key->V
 | .inl i=>.int i
 | .inr x=>.str x
inductive HO where
 /-- a list -/
 | lst (xs:List V)
 /-- a tuple (never changes) -/
 | tup (xs:List V)
 /-- a dict whose keys are ints and texts; one whose keys are tuples of ints and texts (the empty one is both) -/
 | dK (kvs:List (Key×V)) | dT (kvs:List (List Key×V))
 /-- a set of ints: its members,its size -/
 | set (S:Int->Bool) (n:Nat)
 /-- an instance of the class at C,its dict at dx,its attributes -/
 | ins (C dx:Addr) (fs:List (Str×V))
 /-- the dict of the instance at x -/
 | own (x:Addr)
 /-- the dict of an exception -/
 | xd (fs:List (Str×V))
 /-- a bound method,f of x -/
 | met (f x:Addr)
 /-- a range object lo,lo+1,.. below hi -/
 | rng (lo hi:Int)
 /-- a thing that is known to the object (the script; a dict while a loop walks it): read,never written while it is so -/
 | frz (o:Obj) (u:HO)
 /-- a code object's table -/
 | tbl (ps:Array d5)
 /-- any other thing,by what is d8 of its one object (a def of one's own: SetO a S n:=HO.ext λh=>..) -/
 | ext (φ:Heap->Prop)
abbrev Hp:=Addr->Option HO
noncomputable def upd (H:Hp) (a:Addr) (o:HO):Hp:=λb=>if b=a then d4 o else H b
variable {H:Hp} {a:Addr} {o:HO}
theorem ql:upd H a o a=d4 o:=by unfold upd; rw [Aa rfl]
variable {b:Addr}
theorem qu (h:b≠a):upd H a o b=H b:=by unfold upd; rw [Ab h]
theorem qx (h:H a=d4 o) (h':H b=d6):a≠b:=by intro e; subst e; rw [h] at h'; cases h'
section
variable (P:eH) (w:eI)
def ObjOk (H:Hp) (h:Heap) (a:Addr):HO->Prop
 | .lst xs=>xs.length<=sizeLine/\∃ (its:List d5) (n:Nat),Vals xs its/\h.get? a=d4 { cls:=.type "list",data:=.seq its.toArray n }
 | .tup xs=>(xs.length<=sizeLine/\∃ o,h.get? a=d4 o/\o.dict=d6)/\∃ its:List d5,Vals xs its/\IsTup h a its.toArray
 | .dK kvs=>kvs.length<=sizeLine/\(a == ia)=d7/\∃ vs,KV kvs vs/\h.DictOf (jM P w) a vs
 | .dT kvs=>kvs.length<=sizeLine/\(a == ia)=d7/\∃ xs:List (List Key×Addr×d5),Paired (λ(p:List Key×V) (q:List Key×Addr×d5)=>p.1=q.1/\H q.2.1=d4 (.tup (p.1.map kV))/\RelV p.2 q.2.2) kvs xs /\
   ∃ o es e,h.get? a=d4 o/\o.ExactDict/\o.data=.dict es e/\es.toList=xs.map (entryOfKey (tupleKind (jM P w)))/\(xs.map (·.1)).Nodup
 | .set S n=>h.SetOf (intKind P w) a S n
 | .ins C dx fs=>H dx=d4 (.own a)/\fs.length<=1000/\dx≠a/\h.get? a=d4 (bw C dx) /\
   ∃ mA,h.Ns1 dx mA/\(∀ f,RelO (fs.lookup f) (mA f))/\PySem.Within mA (fs.map (·.1))
 | .own _=>∃ o,h.get? a=d4 o
 | .xd fs=>∃ mA,h.Ns1 a mA/\∀ f,RelO (fs.lookup f) (mA f)
 | .rng lo hi=>∃ t u v,h.get? a=d4 { cls:=.type "range",data:=.fields #[.int lo t,.int hi u,.int 1 v] }
 | .frz o u=>h.get? a=d4 o/\ObjOk H h a u
 | .tbl ps=>h.get? a=d4 { cls:=.none,data:=.fields ps }
 | .met f x=>h.get? a=d4 (df (.ref f) (.ref x))
 | .ext φ=>φ h/\(∃ o,h.get? a=d4 o)/\∀ h1 h2:Heap,φ h1->(∀ o,h1.get? a=d4 o->h2.get? a=d4 o)->φ h2
def HOk (H:Hp) (h:Heap):Prop:=∀ a o,H a=d4 o->ObjOk P w H h a o
end
variable {P:eH} {w:eI} {H':Hp} {h h':Heap} {α:Type}
section
theorem ObjOk.lt (x:ObjOk P w H h a o):a < h.objs.size:=by
 cases o with
 | lst xs=>obtain ⟨_,_,_,_,e⟩:=x; exact am e
 | tup xs=>obtain ⟨_,_,_,p⟩:=x; exact p.lt
 | dK kvs=>obtain ⟨_,_,_,_,o,_,_,e,_⟩:=x; exact am e
 | dT kvs=>obtain ⟨_,_,_,_,o,_,_,e,_⟩:=x; exact am e
 | set S n=>obtain ⟨o,_,_,_,e,_⟩:=x; exact am e
 | ins C dx fs=>obtain ⟨_,_,_,e,_⟩:=x; exact am e
 | own y=>obtain ⟨_,e⟩:=x; exact am e
 | xd fs=>obtain ⟨_,⟨_,_,_,e,_⟩,_⟩:=x; exact am e
 | rng lo hi=>obtain ⟨_,_,_,e⟩:=x; exact am e
 | frz b u=>obtain ⟨e,_⟩:=x; exact am e
 | tbl ps=>exact am (show h.get? a=d4 _ from x)
 | met f y=>exact am (show h.get? a=d4 _ from x)
 | ext φ=>obtain ⟨_,⟨_,e⟩,_⟩:=x; exact am e
theorem Paired.mapP {β:Type} {F G:α->β->Prop}:∀ {c:List α} {l:List β},Paired F c l->(∀ a b,F a b->G a b)->Paired G c l
 | _,_,.nil,_=>.nil
 | _,_,.cons r t,f=>.cons (f _ _ r) (Paired.mapP t f)
theorem ObjOk.stay (x:ObjOk P w H h a o) (k:∀ b u,(b=a\/H b=d4 (.own a))->h.get? b=d4 u->h'.get? b=d4 u)
  (s:∀ b,H b=d4 (.own a)->H' b=d4 (.own a)) (m:∀ b xs,H b=d4 (.tup xs)->H' b=d4 (.tup xs)):ObjOk P w H' h' a o:=by
 induction o with
 | lst xs=>obtain ⟨z,its,n,r,e⟩:=x; exact ⟨z,its,n,r,k _ _ (.inl rfl) e⟩
 | tup xs=>obtain ⟨⟨z,o2,j,d2⟩,its,r,g,e,c⟩:=x; exact ⟨⟨z,o2,k _ _ (.inl rfl) j,d2⟩,its,r,g,k _ _ (.inl rfl) e,c⟩
 | dK kvs=>obtain ⟨z,y,vs,r,g,es,i,e,c⟩:=x; exact ⟨z,y,vs,r,g,es,i,k _ _ (.inl rfl) e,c⟩
 | dT kvs=>obtain ⟨z,y,xs,r,g,es,i,e,c⟩:=x;exact ⟨z,y,xs,Paired.mapP r λp q z=>⟨z.1,m _ _ z.2.1,z.2.2⟩,g,es,i,k _ _ (.inl rfl) e,c⟩
 | set S n=>obtain ⟨g,es,i,t,e,c⟩:=x; exact ⟨g,es,i,t,k _ _ (.inl rfl) e,c⟩
 | ins C dx fs=>obtain ⟨d,z,ne,e,mA,⟨od,es,i,j,c⟩,r⟩:=x;exact ⟨s _ d,z,ne,k _ _ (.inl rfl) e,mA,⟨od,es,i,k _ _ (.inr d) j,c⟩,r⟩
 | own y=>obtain ⟨g,e⟩:=x; exact ⟨g,k _ _ (.inl rfl) e⟩
 | xd fs=>obtain ⟨mA,⟨od,es,i,e,c⟩,r⟩:=x; exact ⟨mA,⟨od,es,i,k _ _ (.inl rfl) e,c⟩,r⟩
 | rng lo hi=>obtain ⟨t,u,v,e⟩:=x; exact ⟨t,u,v,k _ _ (.inl rfl) e⟩
 | frz g u l=>obtain ⟨e,q⟩:=x; exact ⟨k _ _ (.inl rfl) e,l q⟩
 | tbl ps=>have e:h.get? a=d4 { cls:=.none,data:=.fields ps }:=x;show h'.get? a=d4 { cls:=.none,data:=.fields ps };exact k a _ (.inl rfl) e
 | met f y=>have e:h.get? a=d4 (df (.ref f) (.ref y)):=x;show h'.get? a=d4 (df (.ref f) (.ref y));exact k a _ (.inl rfl) e
 | ext φ=>obtain ⟨p,⟨o,e⟩,st⟩:=x; exact ⟨st _ _ p λo q=>k _ _ (.inl rfl) q,⟨o,k _ _ (.inl rfl) e⟩,st⟩
theorem HOk.lt (x:HOk P w H h) (e:H a=d4 o):a < h.objs.size:=(x a o e).lt
theorem HOk.fresh (x:HOk P w H h) (e:h.objs.size<=a):H a=none:=by
 cases q:H a with
 | none=>rfl
 | some u=>exact absurd (au (x.lt q) e) (bG _)
theorem HOk.kept (x:HOk P w H h) (k:∀ b u,h.get? b=d4 u->h'.get? b=d4 u):HOk P w H h':=λa o e=>
 (x a o e).stay (λb u _ q=>k b u q) (λ_ q=>q) λ_ _ q=>q
theorem HOk.laid (x:HOk P w H h) (k:∀ b u,h.get? b=d4 u->h'.get? b=d4 u) (hp:h.objs.size<=a) (new:ObjOk P w (upd H a o) h' a o):HOk P w (upd H a o) h':=λb u e=>by
 have n:=x.fresh hp;by_cases d:b=a;·subst d; rw [ql] at e; cases e; exact new
 ·rw [qu d] at e;exact (x b u e).stay (λc v _ q=>k c v q) (λc q=>by rw [qu (qx q n)]; exact q) λc xs q=>by rw [qu (qx q n)]; exact q
end
def Rd (H:Hp) (a:Addr) (u:HO):Prop:=H a=d4 u\/∃ o,H a=d4 (.frz o u)
theorem Rd.ok {u:HO} (r:Rd H a u) (x:HOk P w H h):ObjOk P w H h a u:=by
 rcases r with r | ⟨o,r⟩
 ·exact x a u r
 ·obtain ⟨_,q⟩:=x a _ r;exact q
def Mut:Option HO->Prop
 | some (.lst _)=>True
 | some (.dK _)=>True
 | some (.dT _)=>True
 | some (.set _ _)=>True
 | some (.ins _ _ _)=>True
 | some (.ext _)=>True
 | _=>False
section
variable {x e:Addr} {o':HO}
theorem HOk.write (ok:HOk P w H h) (m:Mut (H x)) (i:e=x\/H e=d4 (.own x)) (k:∀ b u,b≠e->h.get? b=d4 u->h'.get? b=d4 u) (o:∃ u,h'.get? e=d4 u)
  (new:ObjOk P w (upd H x o') h' x o'):HOk P w (upd H x o') h':=λb u q=>by
 have n:∀ c y,H c=d4 (.own y)->c≠x:=λc y r z=>by subst z; rw [r] at m; exact m
 have p:∀ c xs,H c=d4 (.tup xs)->c≠x:=λc xs r z=>by subst z; rw [r] at m; exact m
 by_cases f:b=x;·subst f; rw [ql] at q; cases q; exact new
 ·rw [qu f] at q;by_cases a:b=e
  ·have g:H b=d4 (.own x):=by
    rcases i with z | z;·exact absurd (a.trans z) f
    ·rw [a]; exact z
   rw [q] at g; cases g;obtain ⟨v,j⟩:=o;exact ⟨v,by rw [a]; exact j⟩
  ·refine (ok b u q).stay (λc v d r=>k c v ?_ r) (λc r=>by rw [qu (n c b r)]; exact r) λc xs r=>by rw [qu (p c xs r)]; exact r
   rcases d with rfl | d;·exact a
   ·rintro rfl;rcases i with z | z;·exact n c b d z
    ·rw [d] at z; cases z; exact f rfl
end
structure Un (fs ex:List Addr) (H H':Hp) (h h':Heap):Prop where
 keep:∀ b o,h.get? b=d4 o->H b=d6->b∉fs->b∉ex->h'.get? b=d4 o
 slot:∀ b o,h.get? b=d4 o->H b=d6->b∈fs->b∉ex->∃ sl,h'.get? b=d4 { o with slots:=sl }
 free:∀ b o,h.get? b=d4 o->H b=d6->b∉ex->H' b=d6
 there:∀ b o,h.get? b=d4 o->b∉ex->∃ o',h'.get? b=d4 o'
 tups:∀ b xs,H b=d4 (.tup xs)->H' b=d4 (.tup xs)
 frzs:∀ b o u,H b=d4 (.frz o u)->H' b=d4 (.frz o u)
 tbls:∀ b ps,H b=d4 (.tbl ps)->∃ more,H' b=d4 (.tbl (ps++more))
section
variable {fs fs' ex ex':List Addr} {H1 H2:Hp} {h1 h2:Heap} {x e:Addr}
theorem Un.any (u:Un fs ex H H1 h h1) {o:Obj} (q:h.get? b=d4 o) (n:H b=d6) (hx:b∉ex):∃ sl,h1.get? b=d4 { o with slots:=sl }:=by
 by_cases d:b∈fs;·exact u.slot b o q n d hx
 ·exact ⟨o.slots,u.keep b o q n d hx⟩
theorem Un.kept (k:∀ b u,h.get? b=d4 u->h'.get? b=d4 u):Un fs ex H H h h':=
 ⟨λb o q _ _ _=>k b o q,λb o q _ _ _=>⟨o.slots,k b o q⟩,λ_ _ _ n _=>n,λb o q _=>⟨o,k b o q⟩,λ_ _ q=>q,λ_ _ _ q=>q,λ_ ps q=>⟨#[],by rw [q]; simp⟩⟩
theorem Un.refl:Un fs ex H H h h:=Un.kept λ_ _ q=>q
theorem Un.laid (k:∀ b u,h.get? b=d4 u->h'.get? b=d4 u) (hp:h.objs.size<=a) (c:H a=d6):Un fs ex H (upd H a o) h h' where
 keep:=λb u q _ _ _=>k b u q
 slot:=λb u q _ _ _=>⟨u.slots,k b u q⟩
 free:=λb u q n _=>by rw [qu (aE (au (am q) hp))]; exact n
 there:=λb u q _=>⟨u,k b u q⟩
 tups:=λb xs q=>by rw [qu (qx q c)]; exact q
 frzs:=λb u xs q=>by rw [qu (qx q c)]; exact q
 tbls:=λb ps q=>⟨#[],by rw [qu (qx q c),q]; simp⟩
theorem Un.write (m:Mut (H x)) (i:e=x\/H e=d4 (.own x)) (k:∀ b u,b≠e->h.get? b=d4 u->h'.get? b=d4 u) (d:∃ u,h'.get? e=d4 u):Un fs ex H (upd H x o) h h':=by
 have hx:∀ b,H b=d6->b≠x:=λb n z=>by subst z; rw [n] at m; exact m
 have f:∀ b,H b=d6->b≠e:=λb n z=>by
  subst z;rcases i with r | r;·exact hx b n r
  ·rw [n] at r; cases r
 have c:∀ b u,H b=d4 u->¬Mut (d4 u)->b≠x:=λb u q nm z=>by subst z; rw [q] at m; exact nm m
 refine ⟨λb u q n _ _=>k b u (f b n) q,λb u q n _ _=>⟨u.slots,k b u (f b n) q⟩,λb u q n _=>by rw [qu (hx b n)]; exact n,λb u q _=>?_,λb xs q=>by rw [qu (c b _ q λz=>z)]; exact q,λb u xs q=>by rw [qu (c b _ q λz=>z)]; exact q,λb ps q=>⟨#[],by rw [qu (c b _ q λz=>z),q]; simp⟩⟩;by_cases a:b=e;·subst a; exact d
 ·exact ⟨u,k b u a q⟩
end
noncomputable def trk (h:Heap) (H:Hp):List Addr:=(aZ h.objs.size).filter λa=>(H a).isSome
noncomputable def Wu (h:Heap) (H:Hp):Heap:=aK h (trk h H)
theorem JR (h:Heap) (H:Hp):(Wu h H).objs.size=h.objs.size:=PySem.W.hideAll_size _ _
theorem Wv {o:Obj} (e:h.get? b=d4 o) (n:H b=d6):(Wu h H).get? b=d4 o:=
 bK _ e λc=>by have q:(H b).isSome=true:=(cT.mp c).2;rw [n] at q; simp at q
theorem Yz {o:Obj} (e:(Wu h H).get? b=d4 o):h.get? b=d4 o/\H b=none:=by
 have a:h.get? b=d4 o:=cq (trk h H) e;refine ⟨a,?_⟩;cases q:H b with
 | none=>rfl
 | some x=>have c:b∈trk h H:=cT.mpr ⟨bY.mpr (am a),by simp [q]⟩;have z:(Wu h H).get? b=none:=bF (trk h H) c;rw [z] at e; cases e
structure Mod (K:Frag) (mg:Str->Option d5) (base:Heap):Prop where
 kin:K.In base
 glob:base.Ns ei mg
 blt:∃ mb,base.Ns hZ mb/\∀ x:Str,x ≠ "__name__"->mb x=eG x
 nolimit:base.NoLimit
abbrev Pns:=List (Addr×Obj)
structure Cx where
 prog:eH
 w:eI
 K:Frag
 mg:Str->Option d5
 base:Heap
 A:eZ
 N:List Str
 s₀:d9
 H₀:Hp
 env:Env
 outer:List Env
 stack:List Env
 ex:List Addr
 fn:Str->Bool
 calm:Bool
 pn:Pns
 xe:d5->d9->Prop
noncomputable def frs (l:List Env):List Addr:=l.filterMap (·.frame)
abbrev Cx.fs (X:Cx):List Addr:=frs X.outer
def Vis (sc:fN) (x:Str):Prop:=sc.names.lookup x=d4 .local\/sc.names.lookup x=d4 .cell\/sc.names.lookup x=d4 .free
def Loc (sc:fN) (x:Str):Prop:=sc.names.lookup x=d4 .local\/sc.names.lookup x=d4 .cell
def Yi (env:Env) (h:Heap) (m:Str->Option d5) (x:Str) (u:d5):Prop:=
 (env.kindOf x=d4 .local/\m x=d4 u)\/((env.kindOf x=d4 .cell\/env.kindOf x=d4 .free)/\∃ c,env.cells.lookup x=d4 c/\h.IsCell c (d4 u))
structure Cx.Ok (X:Cx):Prop where
 mod:Mod X.K X.mg X.base
 kind:X.env.scope.kind=.function
 glob:X.env.globals=ei
 blt:X.env.builtins=hZ
 above:X.s₀.heap.objs.size<=X.env.locals
 inj:∀ x y c,X.env.cells.lookup x=d4 c->X.env.cells.lookup y=d4 c->x=y
 has:∀ x,(X.env.kindOf x=d4 .cell\/X.env.kindOf x=d4 .free)->∃ c,X.env.cells.lookup x=d4 c
 cab:∀ x c,X.fn x=d8->X.env.cells.lookup x=d4 c->X.s₀.heap.objs.size<=c
 hd:X.calm=d8->X.A.handled=d6
 frames:X.A.frames=d4 X.stack
 stk:X.stack=X.outer\/(X.stack=X.env::X.outer/\X.env.frame=d4 X.env.locals)
 exf:∀ b∈X.ex,b≠X.env.locals/\∀ x c,X.env.cells.lookup x=d4 c->c≠b
 bs:∀ b o,X.base.get? b=d4 o->X.s₀.heap.get? b=d4 o/\X.H₀ b=d6
 bsz:X.base.objs.size<=X.s₀.heap.objs.size
 noex:∀ b o,X.base.get? b=d4 o->b∉X.ex
 exfs:∀ b∈X.ex,b∉X.fs
 funs:X.s₀.heap.FunFrames X.base X.outer
 frf:∀ b∈X.fs,X.H₀ b=d6
structure Inv (X:Cx) (pins:Pns) (σ:List (Option V)) (H:Hp) (s:d9):Prop where
 ok:X.Ok
 os:s.os=X.s₀.os
 bare:fX s.gens
 base:Un X.fs X.ex X.H₀ H X.s₀.heap s.heap
 loc:∃ m,s.heap.Ns X.env.locals m/\∀ (i:Nat) (x:Str) (v:V),X.N[i]?=d4 x->σ[i]?=d4 (d4 v)->Vis X.env.scope x->∃ u,RelV v u/\Yi X.env s.heap m x u
 cell:∀ x c,X.env.cells.lookup x=d4 c->∃ v,s.heap.IsCell c v
 free:H X.env.locals=d6
 freeC:∀ x c,X.env.cells.lookup x=d4 c->H c=d6
 pin:∀ p∈X.pn++pins,s.heap.get? p.1=d4 p.2/\H p.1=d6/\p.1≠X.env.locals/\p.1∉X.fs/\∀ v,p.2.data≠.cell v
 hok:HOk X.prog X.w H s.heap
 len:σ.length=X.N.length
variable {u:d5} {x:Str} {X:Cx} {pins:Pns} {s s':d9} {t' i j:Nat} {ch:List Addr} {it:Addr} {v:V}
section
variable {σ:List (Option V)}
theorem Cx.Ok.nofr (ok:X.Ok) {o:Obj} (e:X.base.get? b=d4 o):b∉X.fs:=λd=>by have:=(ok.funs.mem d).1;rw [e] at this; cases this
theorem Inv.bs (I:Inv X pins σ H s):∀ b o,X.base.get? b=d4 o->s.heap.get? b=d4 o/\H b=none:=λb o e=>
 ⟨I.base.keep b o (I.ok.bs b o e).1 (I.ok.bs b o e).2 (I.ok.nofr e) (I.ok.noex b o e),I.base.free b o (I.ok.bs b o e).1 (I.ok.bs b o e).2 (I.ok.noex b o e)⟩
theorem Inv.bk (I:Inv X pins σ H s):∀ b o,X.base.get? b=d4 o->s.heap.get? b=d4 o:=λb o e=>(I.bs b o e).1
theorem Inv.mod (I:Inv X pins σ H s):Mod X.K X.mg X.base:=I.ok.mod
theorem Inv.kIn (I:Inv X pins σ H s):X.K.In s.heap:=I.ok.mod.kin.keeps I.bk
theorem Inv.fr (I:Inv X pins σ H s):∃ m,Fr X.base X.env.locals s.heap m:=
 let ⟨m,n,_⟩:=I.loc
 ⟨m,n,I.bk,br I.ok.bsz I.ok.above⟩
theorem Inv.lt (I:Inv X pins σ H s):X.env.locals < s.heap.objs.size:=let ⟨_,n,_⟩:=I.loc; n.lt
theorem Inv.sz (I:Inv X pins σ H s):X.s₀.heap.objs.size<=s.heap.objs.size:=br I.ok.above (cY I.lt)
theorem Inv.nofs (I:Inv X pins σ H s) (h:s.heap.objs.size<=a):a∉X.fs:=λd=>by obtain ⟨_,o,b,_⟩:=I.ok.funs.mem d;exact absurd (au (am b) (br I.sz h)) (bG _)
theorem Inv.cne (I:Inv X pins σ H s):∀ x c,X.env.cells.lookup x=d4 c->c≠X.env.locals:=λx c e z=>by obtain ⟨v,o,b,hd⟩:=I.cell x c e;obtain ⟨m,⟨o',es,p,h,a,_⟩,_⟩:=I.loc;rw [z,h] at b; cases b; rw [a] at hd; cases hd
theorem Inv.funs (I:Inv X pins σ H s):s.heap.FunFrames X.base X.outer:=by
 have all:∀ (l:List Env),(∀ b∈frs l,b∈X.fs)->X.s₀.heap.FunFrames X.base l->s.heap.FunFrames X.base l:=by
  intro l
  induction l with
  | nil=>intro _ _; trivial
  | cons env r i=>intro c hl;obtain ⟨k,⟨L,o,h,n,g,hd⟩,f⟩:=hl;have a:L∈X.fs:=c L (by unfold frs; rw [aN,h]; exact aI);obtain ⟨sl,e⟩:=I.base.slot L o g (I.ok.frf L a) a λz=>I.ok.exfs L z a;exact ⟨k,⟨L,_,h,n,e,hd⟩,i (λb d=>c b (by unfold frs; rw [aN,h]; exact ac _ d)) f⟩
 exact all X.outer (λ_ d=>d) I.ok.funs
theorem Inv.stack (I:Inv X pins σ H s):s.heap.FunFrames X.base X.stack:=by
 rcases I.ok.stk with e | ⟨e,hf⟩
 ·rw [e]; exact I.funs
 ·rw [e];obtain ⟨m,n,_⟩:=I.loc;refine .cons (by rw [I.ok.kind]; decide) hf n ?_ I.funs;exact Heap.get?_none_of_le (br I.ok.bsz I.ok.above)
theorem Inv.stkSub (I:Inv X pins σ H s):∀ b∈frs X.stack,b∈X.env.locals::X.fs:=λb d=>by
 rcases I.ok.stk with e | ⟨e,hf⟩
 ·rw [e] at d; exact ac _ d
 ·rw [e] at d;unfold frs at d;rw [aN,hf] at d;exact d
theorem Inv.stkFree (I:Inv X pins σ H s):∀ b∈frs X.stack,H b=none:=λb d=>by
 rcases aa.mp (I.stkSub b d) with e | d;·rw [e]; exact I.free
 ·obtain ⟨_,o,h,_⟩:=I.ok.funs.mem d;exact I.base.free b o h (I.ok.frf b d) λz=>I.ok.exfs b z d
theorem Inv.step {g':Array ij} {t':Nat} {d':Drawn} {ch:List Addr} (I:Inv X pins σ H s)
  (a:∀ b∈ch,(b∈X.ex\/X.s₀.heap.objs.size<=b)/\b≠X.env.locals/\(∀ x c,X.env.cells.lookup x=d4 c->c≠b)/\∀ p∈X.pn++pins,p.1≠b)
  (keep:∀ b o,b≠X.env.locals->b∉X.fs->b∉ch->s.heap.get? b=d4 o->H b=d6->h'.get? b=d4 o)
  (slot:∀ b o,b≠X.env.locals->b∈X.fs->b∉ch->s.heap.get? b=d4 o->H b=d6->∃ sl,h'.get? b=d4 { o with slots:=sl }) (free:∀ b o,b∉ch->s.heap.get? b=d4 o->H b=d6->H' b=d6)
  (there:∀ b o,b∉ch->s.heap.get? b=d4 o->∃ o',h'.get? b=d4 o')
  (tups:∀ b xs,H b=d4 (.tup xs)->H' b=d4 (.tup xs)) (frzs:∀ b o u,H b=d4 (.frz o u)->H' b=d4 (.frz o u)) (tbls:∀ b ps,H b=d4 (.tbl ps)->∃ more,H' b=d4 (.tbl (ps++more)))
  (ns:∀ m,s.heap.Ns X.env.locals m->h'.Ns X.env.locals m) (hok:HOk X.prog X.w H' h') (hg:fX g') :
  Inv X pins σ H' { s with heap:=h',gens:=g',drawn:=d',toks:=t' }:=by
 have L:∀ b o,X.s₀.heap.get? b=d4 o->b≠X.env.locals:=λb o e=>aE (au (am e) I.ok.above);have C:∀ b o,X.s₀.heap.get? b=d4 o->b∉X.ex->b∉ch:=λb o e hx f=>by
  rcases (a b f).1 with z | z;·exact hx z
  ·exact absurd (au (am e) z) (bG _)
 have K:∀ x c,X.env.cells.lookup x=d4 c->∀ v,s.heap.IsCell c v->h'.IsCell c v:=λx c e v ⟨o,g,hd⟩=>by
  have h:c∉ch:=λz=>(a c z).2.2.1 x c e rfl;by_cases A:c∈X.fs;·obtain ⟨sl,q⟩:=slot c o (I.cne x c e) A h g (I.freeC x c e);exact ⟨_,q,hd⟩
  ·exact ⟨o,keep c o (I.cne x c e) A h g (I.freeC x c e),hd⟩
 refine ⟨I.ok,I.os,hg,⟨λb o e n f hx=>?_,λb o e n f hx=>?_,λb o e n hx=>?_,λb o e hx=>?_,λb xs e=>tups b xs (I.base.tups b xs e),λb o xs e=>frzs b o xs (I.base.frzs b o xs e),λb ps e=>?_⟩,?_,λx c e=>?_,?_,λx c e=>?_,λp hp=>?_,hok,I.len⟩;·exact keep b o (L b o e) f (C b o e hx) (I.base.keep b o e n f hx) (I.base.free b o e n hx)
 ·obtain ⟨sl,e1⟩:=I.base.slot b o e n f hx;obtain ⟨t,j⟩:=slot b _ (L b o e) f (C b o e hx) e1 (I.base.free b o e n hx);exact ⟨t,j⟩
 ·obtain ⟨o',e1⟩:=I.base.there b o e hx;exact free b o' (C b o e hx) e1 (I.base.free b o e n hx)
 ·obtain ⟨o',e1⟩:=I.base.there b o e hx;exact there b o' (C b o e hx) e1
 ·obtain ⟨m1,e1⟩:=I.base.tbls b ps e;obtain ⟨B,j⟩:=tbls b _ e1;exact ⟨m1++B,by rw [j,Array.append_assoc]⟩
 ·obtain ⟨m,D,hl⟩:=I.loc;refine ⟨m,ns m D,λi x v e1 j E=>?_⟩;obtain ⟨u,r,l⟩:=hl i x v e1 j E;refine ⟨u,r,?_⟩;rcases l with l | ⟨k,c,e,z⟩
  ·exact .inl l
  ·exact .inr ⟨k,c,e,K x c e _ z⟩
 ·obtain ⟨v,z⟩:=I.cell x c e;exact ⟨v,K x c e v z⟩
 ·obtain ⟨m,⟨o,_,_,g,_⟩,_⟩:=I.loc;exact free _ o (λz=>(a _ z).2.1 rfl) g I.free
 ·obtain ⟨v,o,g,hd⟩:=I.cell x c e;exact free c o (λz=>(a c z).2.2.1 x c e rfl) g (I.freeC x c e)
 ·obtain ⟨e,n,ne,y,d⟩:=I.pin p hp;have h:p.1∉ch:=λz=>(a p.1 z).2.2.2 p hp rfl;exact ⟨keep p.1 p.2 ne y h e n,free p.1 p.2 h e n,ne,y,d⟩
theorem Inv.un (I:Inv X pins σ H s) (u:Un X.fs [] H H' s.heap h') (hok:HOk X.prog X.w H' h'):Inv X pins σ H' { s with heap:=h',toks:=t' }:=by obtain ⟨m,⟨o,es,p,c,r⟩,_⟩:=id I.loc;obtain ⟨sl,L⟩:=u.any c I.free (by simp);exact I.step (g':=s.gens) (d':=s.drawn) (ch:=[]) (λ_ z=>nomatch z) (λb o _ d _ e n=>u.keep b o e n d (by simp)) (λb o _ d _ e n=>u.slot b o e n d (by simp)) (λb o _ e n=>u.free b o e n (by simp)) (λb o _ e=>u.there b o e (by simp)) u.tups u.frzs u.tbls (λg f=>by obtain ⟨o',es',a,h,r'⟩:=f;rw [c] at h; cases h;exact ⟨_,es',a,L,r'⟩) hok I.bare
theorem Inv.call {g':Array ij} {t':Nat} {d':Drawn} (I:Inv X pins σ H s) (u:Un (frs X.stack) ch H H' s.heap h') (hok:HOk X.prog X.w H' h') (hg:fX g')
  (a:∀ b∈ch,(b∈X.ex\/X.s₀.heap.objs.size<=b)/\b≠X.env.locals/\(∀ x c,X.env.cells.lookup x=d4 c->c≠b)/\∀ p∈X.pn++pins,p.1≠b) :
  Inv X pins σ H' { s with heap:=h',gens:=g',drawn:=d',toks:=t' }:=by
 obtain ⟨m,⟨o,es,l,g,r⟩,_⟩:=id I.loc;obtain ⟨sl,L⟩:=u.any g I.free λz=>(a _ z).2.1 rfl;exact I.step (ch:=ch) a (λb o L j d e n=>u.keep b o e n (λz=>(aa.mp (I.stkSub b z)).elim L j) d) (λb o _ _ d e n=>u.any e n d) (λb o d e n=>u.free b o e n d) (λb o d e=>u.there b o e d) u.tups u.frzs u.tbls (λk i=>by obtain ⟨o',es',f,h,r'⟩:=i;rw [g] at h; cases h;exact ⟨_,es',f,L,r'⟩) hok hg
theorem Inv.turned {t':Nat} (I:Inv X pins σ H s) (k:∀ b o,b≠it->s.heap.get? b=d4 o->h'.get? b=d4 o) (f:H it=d6) (a:it≠X.env.locals)
  (h1:it∈X.ex\/X.s₀.heap.objs.size<=it) (h2:∀ x c,X.env.cells.lookup x=d4 c->c≠it) (j:∀ p∈X.pn++pins,p.1≠it):Inv X pins σ H { s with heap:=h',toks:=t' }:=by
 have t:∀ b u,H b=d4 u->b≠it:=λb u e z=>by rw [z,f] at e; cases e
 refine I.step (g':=s.gens) (d':=s.drawn) (ch:=[it]) (λb i=>?_) (λb o _ _ d e _=>k b o (λz=>d (by simp [z])) e) (λb o _ _ d e _=>⟨o.slots,k b o (λz=>d (by simp [z])) e⟩) (λ_ _ _ _ n=>n)
  (λb o d e=>⟨o,k b o (λz=>d (by simp [z])) e⟩) (λ_ _ e=>e) (λ_ _ _ e=>e) (λb ps e=>⟨#[],by rw [e]; simp⟩) (λm g=>?_) (λb u e=>?_) I.bare
 ·have e:b=it:=by simpa using i
  subst e;exact ⟨h1,a,h2,j⟩
 ·obtain ⟨o,es,l,h,r⟩:=g;exact ⟨o,es,l,k _ o (be a) h,r⟩
 ·refine (I.hok b u e).stay (λc v d q=>k c v ?_ q) (λ_ q=>q) λ_ _ q=>q;rcases d with z | z;·rw [z]; exact t b u e
  ·exact t c _ z
theorem Inv.tok (I:Inv X pins σ H s) (t:Nat):Inv X pins σ H { s with toks:=t }:=I.un (h':=s.heap) (t':=t) Un.refl I.hok
theorem Inv.kept (I:Inv X pins σ H s) (k:∀ b u,s.heap.get? b=d4 u->h'.get? b=d4 u):Inv X pins σ H { s with heap:=h',toks:=t' }:=I.un (Un.kept k) (I.hok.kept k)
theorem Inv.laid {t':Nat} (I:Inv X pins σ H s) (k:∀ b u,s.heap.get? b=d4 u->h'.get? b=d4 u) (hp:s.heap.objs.size<=a) (new:ObjOk X.prog X.w (upd H a o) h' a o):Inv X pins σ (upd H a o) { s with heap:=h',toks:=t' }:=I.un (Un.laid k hp (I.hok.fresh hp)) (I.hok.laid k hp new)
theorem Inv.write {x e:Addr} {o:HO} {t':Nat} (I:Inv X pins σ H s) (m:Mut (H x)) (i:e=x\/H e=d4 (.own x)) (k:∀ b u,b≠e->s.heap.get? b=d4 u->h'.get? b=d4 u) (h:∃ u,h'.get? e=d4 u)
  (new:ObjOk X.prog X.w (upd H x o) h' x o):Inv X pins σ (upd H x o) { s with heap:=h',toks:=t' }:=I.un (Un.write m i k h) (I.hok.write m i k h new)
theorem Inv.weak {σ':List (Option V)} (I:Inv X pins σ H s) (hl:σ'.length=σ.length) (w:∀ (i:Nat) v,σ'[i]?=d4 (d4 v)->σ[i]?=d4 (d4 v)):Inv X pins σ' H s:=
 ⟨I.ok,I.os,I.bare,I.base,let ⟨m,n,h⟩:=I.loc; ⟨m,n,λi x v e1 j E=>h i x v e1 (w i v j) E⟩,I.cell,I.free,I.freeC,I.pin,I.hok,hl.trans I.len⟩
theorem Inv.pins_of {a:Pns} (I:Inv X pins σ H s) (h:∀ p∈a,s.heap.get? p.1=d4 p.2/\H p.1=d6/\p.1≠X.env.locals/\p.1∉X.fs/\∀ v,p.2.data≠.cell v):Inv X a σ H s:=
 ⟨I.ok,I.os,I.bare,I.base,I.loc,I.cell,I.free,I.freeC,λp hp=>(aP.mp hp).elim (λz=>I.pin p (bu _ z)) (h p),I.hok,I.len⟩
theorem Qf {N:List Str} (h:N.Nodup) (a:N[i]?=d4 x) (b:N[j]?=d4 x):i=j:=by obtain ⟨h1,e1⟩:=ak.mp a;obtain ⟨h2,e⟩:=ak.mp b;exact (dn h).mp (e1.trans e.symm)
theorem JS {M:Model} {A:eZ} {E:d5->d9->Prop} {Q:Unit->d9->Prop} (I:Inv X pins σ H s) (hN:X.N.Nodup) (hi:X.N[i]?=d4 x) (hx:Loc X.env.scope x) (r:RelV v u)
  (h:∀ s',Inv X pins (σ.set i (d4 v)) H s'->(∃ a,bB a s.heap s'.heap/\(a=X.env.locals\/X.env.cells.lookup x=d4 a))->Q () s') (hf:X.fn x=d8\/X.env.scope.names.lookup x=d4 .local:=by first | exact .inl rfl | exact .inr rfl | assumption):ez M A (storeName X.env x u) Q E s:=by
 obtain ⟨m,hn,hl⟩:=id I.loc;have P:(X.env.scope.kind == .class||(X.env.scope.kind == .module&&X.env.locals != X.env.globals))=false:=by rw [I.ok.kind]; rfl
 have D:i < σ.length:=by rw [I.len]; exact (ak.mp hi).1
 have cne:=I.cne;have t:∀ {a:Addr} {h':Heap},(∃ o,s.heap.get? a=d4 o/\H a=d6)->bB a s.heap h'->HOk X.prog X.w H h':=λ{a h'} ha f b ob e=>by
  obtain ⟨_,_,l⟩:=ha;refine (I.hok b ob e).stay (λc T g q=>(f.2 c ?_).trans q) (λ_ q=>q) λ_ _ q=>q;rintro rfl;rcases g with rfl | g;·rw [l] at e; cases e
  ·rw [l] at g; cases g
 rcases hx with C | C
 ·refine wpAny_storeName_local C hn (λh' F f=>?_) P;obtain ⟨oL,_,_,Z,_⟩:=id hn;refine h _ ⟨I.ok,I.os,I.bare,⟨λb o e n K hx=>?_,λb o e n K hx=>?_,I.base.free,λb o e hx=>?_,I.base.tups,I.base.frzs,I.base.tbls⟩,⟨_,F,λj y V e1 B e3=>?_⟩,λy c e=>?_,I.free,I.freeC,λp hp=>?_,t ⟨oL,Z,I.free⟩ f,by simpa using I.len⟩ ⟨_,f,.inl rfl⟩;·exact (f.2 b (aE (au (am e) I.ok.above))).trans (I.base.keep b o e n K hx)
  ·obtain ⟨sl,e1⟩:=I.base.slot b o e n K hx;exact ⟨sl,(f.2 b (aE (au (am e) I.ok.above))).trans e1⟩
  ·obtain ⟨o',e1⟩:=I.base.there b o e hx;exact ⟨o',(f.2 b (aE (au (am e) I.ok.above))).trans e1⟩
  ·by_cases G:j=i;·subst G;rw [hi] at e1; cases e1;rw [ap D] at B;cases B;exact ⟨u,r,.inl ⟨C,by simp⟩⟩
   ·rw [af (be G)] at B;obtain ⟨W,r',q⟩:=hl j y V e1 B e3;refine ⟨W,r',?_⟩;rcases q with ⟨k,e⟩ | ⟨k,c,e,z⟩
    ·refine .inl ⟨k,?_⟩;have:y≠x:=λe=>G (Qf hN e1 (e ▸ hi));simp [this,e]
    ·exact .inr ⟨k,c,e,z.sameBut f (cne y c e)⟩
  ·obtain ⟨T,z⟩:=I.cell y c e;exact ⟨T,z.sameBut f (cne y c e)⟩
  ·obtain ⟨e,n,ne,Y,d⟩:=I.pin p hp;exact ⟨(f.2 p.1 ne).trans e,n,ne,Y,d⟩
 ·have J:X.fn x=true:=by
   rcases hf with z | z;·exact z
   ·rw [z] at C; cases C
  obtain ⟨c,g⟩:=I.ok.has x (.inl C);obtain ⟨T,z⟩:=I.cell x c g;refine wpAny_storeName_cell I.ok.kind C g z (λh' S f=>?_);obtain ⟨oc,O,L⟩:=id z;refine h { s with heap:=h' } ⟨I.ok,I.os,I.bare,⟨λb o e n K hx=>?_,λb o e n K hx=>?_,I.base.free,λb o e hx=>?_,I.base.tups,I.base.frzs,I.base.tbls⟩,⟨m,hn.sameBut f (be (cne x c g)),λj y V e1 B e3=>?_⟩,λy U e=>?_,I.free,I.freeC,λp hp=>?_,t ⟨oc,O,I.freeC x c g⟩ f,by simpa using I.len⟩ ⟨c,f,.inr g⟩;·exact (f.2 b (aE (au (am e) (I.ok.cab x c J g)))).trans (I.base.keep b o e n K hx)
  ·obtain ⟨sl,e1⟩:=I.base.slot b o e n K hx;exact ⟨sl,(f.2 b (aE (au (am e) (I.ok.cab x c J g)))).trans e1⟩
  ·obtain ⟨o',e1⟩:=I.base.there b o e hx;exact ⟨o',(f.2 b (aE (au (am e) (I.ok.cab x c J g)))).trans e1⟩
  ·by_cases G:j=i;·subst G;rw [hi] at e1; cases e1;rw [ap D] at B;cases B;exact ⟨u,r,.inr ⟨.inl C,c,g,S⟩⟩
   ·rw [af (be G)] at B;obtain ⟨W,r',q⟩:=hl j y V e1 B e3;refine ⟨W,r',?_⟩;rcases q with q | ⟨k,U,e,z'⟩
    ·exact .inl q
    ·refine .inr ⟨k,U,e,z'.sameBut f ?_⟩;rintro rfl;exact G (Qf hN e1 (I.ok.inj _ _ _ e g ▸ hi))
  ·by_cases R:U=c;·subst R; exact ⟨_,S⟩
   ·obtain ⟨w2,z2⟩:=I.cell y U e;exact ⟨w2,z2.sameBut f R⟩
  ·obtain ⟨e,n,ne,Y,d⟩:=I.pin p hp;refine ⟨(f.2 p.1 ?_).trans e,n,ne,Y,d⟩;intro q;rw [q,O] at e;have q':oc=p.2:=ax.inj e;exact d T (by rw [<-q']; exact L)
theorem yY {M:Model} {A:eZ} {E:d5->d9->Prop} {Q:Unit->d9->Prop} (I:Inv X pins σ H s) (a:X.N.Nodup) (hi:X.N[i]?=d4 x) (hx:Loc X.env.scope x) (r:RelV v u)
  (h:∀ s',Inv X pins (σ.set i (d4 v)) H s'->Q () s') (f:X.fn x=d8\/X.env.scope.names.lookup x=d4 .local:=by first | exact .inl rfl | exact .inr rfl | assumption):ez M A (storeName X.env x u) Q E s:=
 JS I a hi hx r (λs' b _=>h s' b) f
theorem Inv.call' (I:Inv X pins σ H s) (h:s'.os=s.os) (u:Un (frs X.stack) ch H H' s.heap s'.heap) (hok:HOk X.prog X.w H' s'.heap) (hg:fX s'.gens)
  (a:∀ b∈ch,(b∈X.ex\/X.s₀.heap.objs.size<=b)/\b≠X.env.locals/\(∀ x c,X.env.cells.lookup x=d4 c->c≠b)/\∀ p∈X.pn++pins,p.1≠b):Inv X pins σ H' s':=by
 obtain ⟨h',g',d',t',o'⟩:=s';have e:o'=s.os:=h;subst e;exact I.call (g':=g') (t':=t') (d':=d') u hok hg a
end
abbrev XK:=d5->Option Addr->Hp->Prop
abbrev St:=List (Option V)
abbrev VK:=V->Hp->Prop
abbrev TE:=St->Hp->VK->Prop
abbrev TT:=St->Hp->(Bool->Hp->Prop)->Prop
abbrev TA:=St->Hp->(List V->Hp->Prop)->Prop
structure Ends where
 nx:St->Hp->Prop
 rt:VK
 bk:St->Hp->Prop:=λ_ _=>False
 ct:St->Hp->Prop:=λ_ _=>False
abbrev TS:=Ends->St->Hp->Prop
def EP (X:Cx) (pins:Pns) (σ:St) (Q:VK) (u:d5) (s':d9):Prop:=∃ v H',Inv X pins σ H' s'/\RelV v u/\Q v H'
def TP (X:Cx) (pins:Pns) (σ:St) (Q:Bool->Hp->Prop) (b:Bool) (s':d9):Prop:=∃ H',Inv X pins σ H' s'/\Q b H'
def AP (X:Cx) (pins:Pns) (σ:St) (Q:List V->Hp->Prop) (us:List d5) (s':d9):Prop:=∃ vs H',Inv X pins σ H' s'/\Vals vs us/\Q vs H'
def SP (X:Cx) (pins:Pns) (D:Ends) (f:Flow) (s':d9):Prop:=
 match f with
 | .next=>∃ σ' H',Inv X pins σ' H' s'/\D.nx σ' H'
 | .brk=>∃ σ' H',Inv X pins σ' H' s'/\D.bk σ' H'
 | .cont=>∃ σ' H',Inv X pins σ' H' s'/\D.ct σ' H'
 | .ret u=>∃ v σ' H',Inv X pins σ' H' s'/\RelV v u/\D.rt v H'
structure PE (X:Cx) (e:Expr) (t:TE):Prop where
 run:∀ (pins:Pns) (s:d9) (σ:St) (H:Hp) (Q:VK),Inv X pins σ H s->t σ H Q->ez (model X.prog X.w) X.A (eval e X.env) (EP X pins σ Q) X.xe s
instance {X:Cx} {e:Expr} {t:TE}:CoeFun (PE X e t) (λ_=>∀ (pins:Pns) (s:d9) (σ:St) (H:Hp) (Q:VK),Inv X pins σ H s->t σ H Q->ez (model X.prog X.w) X.A (eval e X.env) (EP X pins σ Q) X.xe s):=⟨λh=>h.run⟩
structure PT (X:Cx) (e:Expr) (t:TT):Prop where
 run:∀ (pins:Pns) (s:d9) (σ:St) (H:Hp) (Q:Bool->Hp->Prop),Inv X pins σ H s->t σ H Q->ez (model X.prog X.w) X.A (isTrue e X.env (eval e X.env)) (TP X pins σ Q) X.xe s
instance {X:Cx} {e:Expr} {t:TT}:CoeFun (PT X e t) (λ_=>∀ (pins:Pns) (s:d9) (σ:St) (H:Hp) (Q:Bool->Hp->Prop),Inv X pins σ H s->t σ H Q->ez (model X.prog X.w) X.A (isTrue e X.env (eval e X.env)) (TP X pins σ Q) X.xe s):=⟨λh=>h.run⟩
structure PW (X:Cx) (e:Expr) (t:TT):Prop where
 run:∀ (whole:Sem d5) (pins:Pns) (s:d9) (σ:St) (H:Hp) (Q:Bool->Hp->Prop),Inv X pins σ H s->t σ H Q->ez (model X.prog X.w) X.A (isTrue e X.env whole) (TP X pins σ Q) X.xe s
instance {X:Cx} {e:Expr} {t:TT}:CoeFun (PW X e t) (λ_=>∀ (whole:Sem d5) (pins:Pns) (s:d9) (σ:St) (H:Hp) (Q:Bool->Hp->Prop),Inv X pins σ H s->t σ H Q->ez (model X.prog X.w) X.A (isTrue e X.env whole) (TP X pins σ Q) X.xe s):=⟨λh=>h.run⟩
variable {e:Expr}
theorem PW.pt {t:TT} (h:PW X e t):PT X e t:=⟨h.run _⟩
structure PA (X:Cx) (es:List Expr) (t:TA):Prop where
 run:∀ (pos:Pos) (pins:Pns) (s:d9) (σ:St) (H:Hp) (Q:List V->Hp->Prop),Inv X pins σ H s->t σ H Q->ez (model X.prog X.w) X.A (spliced (e9 pos (eh es X.env))) (AP X pins σ Q) X.xe s
instance {X:Cx} {es:List Expr} {t:TA}:CoeFun (PA X es t) (λ_=>∀ (pos:Pos) (pins:Pns) (s:d9) (σ:St) (H:Hp) (Q:List V->Hp->Prop),Inv X pins σ H s->t σ H Q->ez (model X.prog X.w) X.A (spliced (e9 pos (eh es X.env))) (AP X pins σ Q) X.xe s):=⟨λh=>h.run⟩
structure PS (X:Cx) (st:Stmt) (t:TS):Prop where
 run:∀ (pins:Pns) (s:d9) (σ:St) (H:Hp) (D:Ends),Inv X pins σ H s->t D σ H->ez (model X.prog X.w) X.A (exec st X.env) (SP X pins D) X.xe s
instance {X:Cx} {st:Stmt} {t:TS}:CoeFun (PS X st t) (λ_=>∀ (pins:Pns) (s:d9) (σ:St) (H:Hp) (D:Ends),Inv X pins σ H s->t D σ H->ez (model X.prog X.w) X.A (exec st X.env) (SP X pins D) X.xe s):=⟨λh=>h.run⟩
structure PSs (X:Cx) (st:List Stmt) (t:TS):Prop where
 run:∀ (pins:Pns) (s:d9) (σ:St) (H:Hp) (D:Ends),Inv X pins σ H s->t D σ H->ez (model X.prog X.w) X.A (execs st X.env) (SP X pins D) X.xe s
instance {X:Cx} {st:List Stmt} {t:TS}:CoeFun (PSs X st t) (λ_=>∀ (pins:Pns) (s:d9) (σ:St) (H:Hp) (D:Ends),Inv X pins σ H s->t D σ H->ez (model X.prog X.w) X.A (execs st X.env) (SP X pins D) X.xe s):=⟨λh=>h.run⟩
variable {A:eZ} {E:d5->d9->Prop}
theorem thn {t:Sem α} {Q b:α->d9->Prop} {M:Model} (h:ez M A t Q E s) (c:∀ a s,Q a s->b a s):ez M A t b E s:=fI h c λ_ _ x=>x
variable {σ:St} {pos:Pos} {Q:d5->d9->Prop} {ta tb:TE} {c:Expr}
section
def qcg (i:Nat):TE:=λσ H Q=>∃ v,σ[i]?=d4 (d4 v)/\Q v H
def tC (v:V):TE:=λ_ H Q=>Q v H
abbrev Dbg (x:Str):Prop:=(x == ("__debug__":Str))=d7
abbrev Cdk (x:Str):Prop:=(x == ("__classdict__":Str))=d7
theorem xS (j:X.N[i]?=d4 x) (f:Vis X.env.scope x) (hd:Dbg x:=by decide) (d:Cdk x:=by decide):PE X (.Name x pos) (qcg i):=by
 refine ⟨?_⟩;intro pins s σ H Q I h;obtain ⟨v,e,h⟩:=h;obtain ⟨m,n,hl⟩:=I.loc;obtain ⟨u,r,l⟩:=hl i x v j e f;have fin:EP X pins σ Q u s:=⟨v,H,I,r,h⟩
 rcases l with ⟨k,g⟩ | ⟨k,c,b,a⟩
 ·exact wpAny_Name (wpAny_loadName_local I.ok.kind k n g fin) hd
 ·rcases k with k | k;·exact wpAny_Name (wpAny_loadName_cell I.ok.kind k b a fin) hd
  ·exact wpAny_Name (wpAny_loadName_free I.ok.kind k b a fin d) hd
theorem ZF {i j pos}:PE X (.Constant (.int i) j pos) (tC (.int i)):=⟨λ_ _ _ H _ I h=>wpAny_Constant_int ⟨.int i,H,I.tok _,⟨_,rfl⟩,h⟩⟩
theorem YA {b j pos}:PE X (.Constant (.bool b) j pos) (tC (.bl b)):=⟨λ_ _ _ H _ I h=>Constant_bool ⟨.bl b,H,I,rfl,h⟩⟩
theorem ZG {j pos}:PE X (.Constant .none j pos) (tC .non):=⟨λ_ _ _ H _ I h=>Constant_none ⟨.non,H,I,rfl,h⟩⟩
theorem ZH {x j pos}:PE X (.Constant (.str x) j pos) (tC (.str x)):=⟨λ_ _ _ H _ I h=>Calls.Constant_str ⟨.str x,H,I.tok _,⟨_,rfl⟩,h⟩⟩
def Gl (X:Cx) (x:Str):Prop:=X.env.kindOf x=d4 .globalImplicit
theorem wP {E:d5->d9->Prop} {pos:Pos} (I:Inv X pins σ H s) (hg:Gl X x) (c:X.mg x=d4 u) (h:Q u s)
  (hd:Dbg x:=by decide):ez (model X.prog X.w) X.A (eval (.Name x pos) X.env) Q E s:=
 Calls.Name_function_global I.ok.kind hg (Calls.loadGlobal_global (by rw [I.ok.glob]; exact I.mod.glob.keeps I.bk) c h) hd
theorem Qg {E:d5->d9->Prop} {pos:Pos} (I:Inv X pins σ H s) (hg:Gl X x) (m:X.mg x=d6) (c:eG x=d4 u) (h:Q u s)
  (n:x ≠ "__name__":=by decide) (hd:Dbg x:=by decide):ez (model X.prog X.w) X.A (eval (.Name x pos) X.env) Q E s:=by
 obtain ⟨mb,h1,h2⟩:=I.mod.blt;exact Calls.Name_function_global I.ok.kind hg (Calls.loadGlobal_builtin (by rw [I.ok.glob]; exact I.mod.glob.keeps I.bk) m (by rw [I.ok.blt]; exact h1.keeps I.bk) ((h2 x n).trans c) h) hd
theorem JT (hg:Gl X x) (c:X.mg x=d4 u) (r:RelV v u) (hd:Dbg x:=by decide):PE X (.Name x pos) (tC v):=⟨λ_ _ _ H _ I h=>wP I hg c ⟨v,H,I,r,h⟩ hd⟩
theorem JU (hg:Gl X x) (m:X.mg x=d6) (c:eG x=d4 u) (r:RelV v u) (n:x ≠ "__name__":=by decide) (hd:Dbg x:=by decide):PE X (.Name x pos) (tC v):=⟨λ_ _ _ H _ I h=>Qg I hg m c ⟨v,H,I,r,h⟩ n hd⟩
variable {a b:Expr}
variable {tA tB':TT} {rest:List Expr}
def tOr (t u:TT):TT:=λσ H Q=>t σ H λc H1=>if c=d8 then Q d8 H1 else u σ H1 Q
def qch (t:TT):TT:=λσ H Q=>t σ H λc H1=>Q (!c) H1
theorem YB (g:PT X a tA):PW X (.BoolOp .And [a] pos) tA:=by
 refine ⟨?_⟩;intro w pins s σ H Q I h;refine isTrue_and (thn (g pins s σ H Q I h) λc s1 e=>?_);cases c with
 | true=>exact isTrue_and_nil e
 | false=>exact e
theorem ZI (g:PT X a tA):PW X (.BoolOp .Or [a] pos) tA:=by
 refine ⟨?_⟩;intro w pins s σ H Q I h;refine isTrue_or (thn (g pins s σ H Q I h) λc s1 e=>?_);cases c with
 | false=>exact isTrue_or_nil e
 | true=>exact e
theorem qaN (g:PT X a tA) (e:PW X (.BoolOp .Or (b::rest) pos) tB'):PW X (.BoolOp .Or (a::b::rest) pos) (tOr tA tB'):=by
 refine ⟨?_⟩;intro w pins s σ H Q I h;refine isTrue_or (thn (g pins s σ H _ I h) λc s1 ⟨H1,d,q⟩=>?_);cases c with
 | true=>exact ⟨H1,d,q⟩
 | false=>exact e w pins s1 σ H1 Q d q
theorem ZJ (g:PT X a tA):PT X (.UnaryOp .Not a pos) (qch tA):=by refine ⟨?_⟩;intro pins s σ H Q I h;exact isTrue_not (g pins s σ H (λc H1=>Q (!c) H1) I h)
def qaO (ta tb:TE):TE:=λσ H Q=>ta σ H λx H1=>∃ c,x=.bl c/\if c=d8 then tb σ H1 Q else Q (.bl d7) H1
theorem ZK {op} {t:TE} (h:PE X a t):PE X (.BoolOp op [a] pos) t:=⟨λpins s σ H Q I w=>BoolOp_one (h pins s σ H Q I w)⟩
theorem ZL (g:PE X a ta) (e:PE X (.BoolOp .And (b::rest) pos) tb):PE X (.BoolOp .And (a::b::rest) pos) (qaO ta tb):=by
 refine ⟨?_⟩;intro pins s σ H Q I h;refine BoolOp_and (thn (g pins s σ H _ I h) λv s1 ⟨x,H1,d,r1,q⟩=>?_);obtain ⟨c,rfl,q⟩:=q;cases r1;refine fk ?_;cases c with
 | true=>exact e pins s1 σ H1 Q d q
 | false=>exact ⟨.bl d7,H1,d,rfl,q⟩
def tIf (t:TT) (ta tb:TE):TE:=λσ H Q=>t σ H λc H1=>if c=d8 then ta σ H1 Q else tb σ H1 Q
theorem Ww (f:PT X c tA) (i:PE X a ta) (g:PE X b tb):PE X (.IfExp c a b pos) (tIf tA ta tb):=by
 refine ⟨?_⟩;intro pins s σ H Q I h;refine wpAny_IfExp (thn (f pins s σ H _ I h) λd s1 ⟨H1,e,q⟩=>?_);cases d with
 | true=>exact i pins s1 σ H1 Q e q
 | false=>exact g pins s1 σ H1 Q e q
end
def SqL (K:Frag) (H:Hp) (a:Addr) (xs:List V):Prop:=
 Rd H a (.lst xs) \/
  ∃ (o:Obj) (its:Array d5) (n:Nat),K.lookup a=d4 o/\o.cls=.type "list"/\o.dict=d6/\o.data=.seq its n/\its.size<=sizeLine/\Vals xs its.toList
def SqT (K:Frag) (H:Hp) (a:Addr) (xs:List V):Prop:=
 Rd H a (.tup xs) \/
  ∃ (o:Obj) (its:Array d5) (n:Nat),K.lookup a=d4 o/\(o.cls=.type "tuple"/\o.dict=d6)/\o.data=.seq its n/\its.size<=sizeLine/\Vals xs its.toList
noncomputable def qci:d5->Option V
 | .none=>d4 .non
 | .bool b=>d4 (.bl b)
 | .int i _=>d4 (.int i)
 | .str x _=>d4 (.str x)
 | .bytes b _=>d4 (.byt b)
 | .float b _=>d4 (.flt b)
 | .ref a=>d4 (.ref a)
 | .type n=>d4 (.ty n)
 | _=>d6
theorem RelV.abs {x:V} (r:RelV x u):qci u=d4 x:=by
 cases x with
 | non=>cases r; rfl
 | bl _=>cases r; rfl
 | int _=>obtain ⟨t,rfl⟩:=r; rfl
 | str _=>obtain ⟨t,rfl⟩:=r; rfl
 | byt _=>obtain ⟨t,rfl⟩:=r; rfl
 | flt _=>obtain ⟨t,rfl⟩:=r; rfl
 | ref _=>cases r; rfl
 | ty _=>cases r; rfl
theorem RelV.inj {x y:V} (r:RelV x u) (q:RelV y u):x=y:=ax.inj (r.abs.symm.trans q.abs)
variable {ys:List V}
theorem Vals.inj (h:Vals xs us) (h':Vals ys us):xs=ys:=by
 induction h generalizing ys with
 | nil=>cases h'; rfl
 | cons r t l=>
  cases h' with
  | cons r' t'=>rw [r.inj r',l t']
section
theorem Inv.list (I:Inv X pins σ H s) (h:SqL X.K H a xs):∃ its:List d5,Vals xs its/\PlainL s.heap a its.toArray/\xs.length<=sizeLine:=by
 rcases h with h | ⟨o,its,n,hk,hc,hd,hs,hz,r⟩
 ·obtain ⟨z,its,n,r,e⟩:=h.ok I.hok;exact ⟨its,r,⟨_,n,e,rfl,rfl,rfl⟩,z⟩
 ·refine ⟨its.toList,r,⟨o,n,I.kIn a o hk,hc,hd,by simpa using hs⟩,?_⟩;have e:=r.length;simp only [bL] at e
  lia
theorem Inv.tuple (I:Inv X pins σ H s) (h:SqT X.K H a xs):∃ its:List d5,Vals xs its/\IsTup s.heap a its.toArray/\xs.length<=sizeLine:=by
 rcases h with h | ⟨o,its,n,hk,hc,hs,hz,r⟩
 ·obtain ⟨⟨z,_⟩,its,r,p⟩:=h.ok I.hok;exact ⟨its,r,p,z⟩
 ·refine ⟨its.toList,r,⟨o,I.kIn a o hk,hc.1,n,by simpa using hs⟩,?_⟩;have e:=r.length;simp only [bL] at e
  lia
theorem Inv.tupleN (I:Inv X pins σ H s) (h:SqT X.K H a xs):∃ o,s.heap.get? a=d4 o/\o.dict=none:=by
 rcases h with h | ⟨o,its,n,hk,hc,hs,hz,r⟩
 ·obtain ⟨⟨z,w⟩,its,r,p⟩:=h.ok I.hok;exact w
 ·exact ⟨o,I.kIn a o hk,hc.2⟩
theorem Inv.list_inj (I:Inv X pins σ H s) (h:SqL X.K H a xs) (h':SqL X.K H a ys):xs=ys:=by
 obtain ⟨its,r,⟨o,n,e,_,_,d⟩,_⟩:=I.list h;obtain ⟨its',r',⟨o',c,b,_,_,d'⟩,_⟩:=I.list h';rw [e] at b; cases b;rw [d] at d';injection d' with d1 _;have:its=its':=by simpa using congrArg Array.toList d1
 subst this;exact r.inj r'
theorem Inv.tuple_inj (I:Inv X pins σ H s) (h:SqT X.K H a xs) (h':SqT X.K H a ys):xs=ys:=by
 obtain ⟨its,r,⟨o,e,_,n,d⟩,_⟩:=I.tuple h;obtain ⟨its',r',⟨o',b,_,c,d'⟩,_⟩:=I.tuple h';rw [e] at b; cases b;rw [d] at d';injection d' with d1 _;have:its=its':=by simpa using congrArg Array.toList d1
 subst this;exact r.inj r'
end
variable {te:TE}
section
variable {st:Stmt} {rest:List Stmt} {t u:TS}
def qaP:TS:=λD σ H=>D.nx σ H
def qcj (t u:TS):TS:=λD σ H=>t { D with nx:=u D } σ H
theorem JV:PSs X [] qaP:=⟨λ_ _ σ H _ I h=>wpAny_execs_nil ⟨σ,H,I,h⟩⟩
theorem Wx (h1:PS X st t) (h2:PSs X rest u):PSs X (st::rest) (qcj t u):=by
 refine ⟨?_⟩;intro pins s σ H D I h;refine wpAny_execs_cons (thn (h1 pins s σ H { D with nx:=u D } I h) λf s1 q=>?_);cases f with
 | next=>obtain ⟨σ',H',b,q⟩:=q;exact h2 pins s1 σ' H' D b q
 | ret v=>exact q
 | brk=>exact q
 | cont=>exact q
theorem YC (h1:PS X st t):PSs X [st] t:=by
 refine ⟨?_⟩;intro pins s σ H D I h;refine wpAny_execs_cons (thn (h1 pins s σ H D I h) λf s1 q=>?_);cases f with
 | next=>exact wpAny_execs_nil q
 | ret v=>exact q
 | brk=>exact q
 | cont=>exact q
theorem Inv.quiet (I:Inv X pins σ H s):interactive X.env=false:=by simp [interactive,I.ok.kind]
def qaQ (te:TE):TS:=λD σ H=>te σ H λ_ H1=>D.nx σ H1
theorem YD (i:PE X e te) (c:fY e d6 pos.line X.env=pure false:=by rfl):PS X (.Expr e pos) (qaQ te):=by refine ⟨?_⟩;intro pins s σ H D I h;exact wpAny_Expr_any (thn (i pins s σ H _ I h) λv s1 ⟨x,H1,d,r1,q⟩=>⟨σ,H1,d,q⟩) I.quiet c
def qck (te:TE):TS:=λD σ H=>te σ H D.rt
theorem ZM (i:PE X e te):PS X (.Return (d4 e) pos) (qck te):=by refine ⟨?_⟩;intro pins s σ H D I h;exact wpAny_Return_some (thn (i pins s σ H _ I h) λv s1 ⟨x,H1,d,r1,q⟩=>⟨x,σ,H1,d,r1,q⟩)
def qcl (c:TT) (t u:TS):TS:=λD σ H=>c σ H λb H1=>if b=d8 then t D σ H1 else u D σ H1
theorem qaR {a b:List Stmt} {tc:TT} (f:PT X c tc) (i:PSs X a t) (g:PSs X b u):PS X (.If c a b pos) (qcl tc t u):=by
 refine ⟨?_⟩;intro pins s σ H D I h;refine wpAny_If (thn (f pins s σ H _ I h) λd s1 ⟨H1,e,q⟩=>?_);cases d with
 | true=>exact i pins s1 σ H1 D e q
 | false=>exact g pins s1 σ H1 D e q
end
abbrev TG:=V->St->Hp->(St->Hp->Prop)->Prop
abbrev TGs:=List V->St->Hp->(St->Hp->Prop)->Prop
structure PG (X:Cx) (target:Expr) (t:TG):Prop where
 run:∀ (pins:Pns) (s:d9) (σ:St) (H:Hp) (v:V) (u:d5) (Q:St->Hp->Prop),Inv X pins σ H s->RelV v u->t v σ H Q ->ez (model X.prog X.w) X.A (assign target X.env u) (λ_ s'=>∃ σ' H',Inv X pins σ' H' s'/\Q σ' H') X.xe s
instance {X:Cx} {target:Expr} {t:TG}:CoeFun (PG X target t) (λ_=>∀ (pins:Pns) (s:d9) (σ:St) (H:Hp) (v:V) (u:d5) (Q:St->Hp->Prop),Inv X pins σ H s->RelV v u->t v σ H Q ->ez (model X.prog X.w) X.A (assign target X.env u) (λ_ s'=>∃ σ' H',Inv X pins σ' H' s'/\Q σ' H') X.xe s):=⟨λh=>h.run⟩
structure PGs (X:Cx) (ts:List Expr) (t:TGs):Prop where
 run:∀ (pins:Pns) (s:d9) (σ:St) (H:Hp) (vs:List V) (us:List d5) (Q:St->Hp->Prop),Inv X pins σ H s->Vals vs us->t vs σ H Q ->ez (model X.prog X.w) X.A (assignInOrder ((assignEach ts X.env).map (·.2)) us) (λ_ s'=>∃ σ' H',Inv X pins σ' H' s'/\Q σ' H') X.xe s
instance {X:Cx} {ts:List Expr} {t:TGs}:CoeFun (PGs X ts t) (λ_=>∀ (pins:Pns) (s:d9) (σ:St) (H:Hp) (vs:List V) (us:List d5) (Q:St->Hp->Prop),Inv X pins σ H s->Vals vs us->t vs σ H Q ->ez (model X.prog X.w) X.A (assignInOrder ((assignEach ts X.env).map (·.2)) us) (λ_ s'=>∃ σ' H',Inv X pins σ' H' s'/\Q σ' H') X.xe s):=⟨λh=>h.run⟩
variable {pos':Pos}
section
def ZN (i:Nat):TG:=λv σ H Q=>Q (σ.set i (d4 v)) H
theorem YE (a:X.N.Nodup) (hi:X.N[i]?=d4 x) (hx:Loc X.env.scope x) (f:X.fn x=d8\/X.env.scope.names.lookup x=d4 .local:=by first | exact .inl rfl | exact .inr rfl | assumption):PG X (.Name x pos) (ZN i):=by refine ⟨?_⟩;intro pins s σ H v u Q I r h;exact wpAny_assign_Name (yY I a hi hx r (λs' b=>⟨_,H,b,h⟩) f)
def qcm (te:TE) (g:TG):TS:=λD σ H=>te σ H λx H1=>g x σ H1 D.nx
theorem Yj (b:X.N.Nodup) (hi:X.N[i]?=d4 x) (hx:Loc X.env.scope x) (a:PE X e te) (c:fY e (d4 (.Name x pos')) pos.line X.env=pure false:=by rfl) (f:X.fn x=d8\/X.env.scope.names.lookup x=d4 .local:=by first | exact .inl rfl | exact .inr rfl | assumption):PS X (.Assign [.Name x pos'] e pos) (qcm te (ZN i)):=by refine ⟨?_⟩;intro pins s σ H D I h;refine wpAny_Assign_Name (thn (a pins s σ H _ I h) λv s1 ⟨y,H1,g,r1,q⟩=>?_) c;exact yY g b hi hx r1 (λs2 d=>⟨_,H1,d,q⟩) f
end
structure It where
 go:Nat->Hp->Prop
 yld:Nat->Hp->V->Hp->Prop
 stop:Nat->Hp->Prop
def gf (X:Cx) (pins:Pns) (H:Hp) (b:Addr):Prop:=
 H b=d6/\b≠X.env.locals/\b∉X.fs/\(b∈X.ex\/X.s₀.heap.objs.size<=b)/\(∀ x c,X.env.cells.lookup x=d4 c->c≠b)/\∀ p∈X.pn++pins,p.1≠b
theorem Inv.fpOk (I:Inv X pins σ H s) (d:s.heap.objs.size<=b) (n:H' b=d6):gf X pins H' b:=by
 refine ⟨n,Nat.ne_of_gt (au I.lt d),I.nofs d,.inr (br I.sz d),λx c e z=>?_,λp hp z=>?_⟩;·obtain ⟨v,q⟩:=I.cell x c e;exact absurd (au q.lt (by rw [z]; exact d)) (bG _)
 ·exact absurd (au (am (I.pin p hp).1) (by rw [z]; exact d)) (bG _)
structure Turn (P:eH) (w:eI) (K:Frag) (tg:Expr) (J:It) (fp:List Addr) (it:Addr) (tn:Nat->Heap->Prop):Prop where
 mem:it∈fp
 obj:∀ i h,tn i h->∀ b∈fp,∃ o,h.get? b=d4 o/\∀ v,o.data≠.cell v
 keep:∀ i h h',tn i h->(∀ b∈fp,∀ o,h.get? b=d4 o->h'.get? b=d4 o)->tn i h'
 item:∀ (X:Cx),X.prog=P->X.w=w->X.K=K->X.calm=d8->∀ (i:Nat) (pins:Pns) (s:d9) (σ:St) (H:Hp) (E:d5->d9->Prop),Inv X pins σ H s->(∀ b∈fp,gf X pins H b)->tn i s.heap->J.go i H ->ez (model P w) X.A (pyNext (.ref it)) (λr s1=>∃ u,r=d4 u /\
   ez (model P w) X.A (fW tg (.ref it) u) (λ_ s2=>∃ x H',Inv X pins σ H' s2/\RelV x u/\J.yld i H x H'/\tn (i+1) s2.heap/\∀ b∈fp,H' b=d6) E s1) E s
 done:∀ (X:Cx),X.prog=P->X.w=w->X.K=K->X.calm=d8->∀ (i:Nat) (pins:Pns) (s:d9) (σ:St) (H:Hp) (E:d5->d9->Prop),Inv X pins σ H s->(∀ b∈fp,gf X pins H b)->tn i s.heap->J.stop i H ->ez (model P w) X.A (pyNext (.ref it)) (λr s1=>r=d6/\Inv X pins σ H s1) E s
 self:∀ (A:eZ) (i:Nat) (s:d9) (Q:d5->d9->Prop) (E:d5->d9->Prop),tn i s.heap->Q (.ref it) s->ez (model P w) A (pyIter (.ref it)) Q E s
abbrev TI:=St->Hp->(It->Hp->Prop)->Prop
def PIE (X:Cx) (pins:Pns) (σ:St) (tg:Expr) (R:It->Hp->Prop) (i:d5) (s2:d9):Prop:=
 ∃ (it:Addr) (fp:List Addr) (tn:Nat->Heap->Prop) (J:It) (H':Hp),i=.ref it/\Inv X pins σ H' s2/\Turn X.prog X.w X.K tg J fp it tn/\tn 0 s2.heap/\(∀ b∈fp,gf X pins H' b)/\R J H'
structure PI (X:Cx) (tg iter:Expr) (wi:TI):Prop where
 run:∀ (pins:Pns) (s:d9) (σ:St) (H:Hp) (R:It->Hp->Prop),Inv X pins σ H s->wi σ H R ->ez (model X.prog X.w) X.A (eval iter X.env) (λv s1=>ez (model X.prog X.w) X.A (pyIter v) (PIE X pins σ tg R) X.xe s1) X.xe s
instance {X:Cx} {tg iter:Expr} {wi:TI}:CoeFun (PI X tg iter wi) (λ_=>∀ (pins:Pns) (s:d9) (σ:St) (H:Hp) (R:It->Hp->Prop),Inv X pins σ H s->wi σ H R ->ez (model X.prog X.w) X.A (eval iter X.env) (λv s1=>ez (model X.prog X.w) X.A (pyIter v) (PIE X pins σ tg R) X.xe s1) X.xe s):=⟨λh=>h.run⟩
theorem Wy {M:Model} {A:eZ} {E:d5->d9->Prop} {tg:Expr} {u:d5} {o:Obj} {n:String} {vs:Array d5} {Q:Unit->d9->Prop} (a:s.heap.get? it=d4 o) (d:o.cls=.type n) (hd:o.data=.fields vs)
    (b:["enumerate", "zip", "dict_itemiterator", "dict_reverseitemiterator", "odict_iterator", "itertools.zip_longest", "itertools.pairwise"].contains n=d7) (c:Q () s):ez M A (fW tg (.ref it) u) Q E s:=by
  unfold fW;cases tg <;> first
    | exact et c
    | (cases u <;> first
        | exact et c
        | (refine ej (wpAny_load a ?_)
           rw [d,hd];show ez M A (if (["enumerate", "zip", "dict_itemiterator", "dict_reverseitemiterator", "odict_iterator", "itertools.zip_longest", "itertools.pairwise"].contains n&&vs[0]? == d4 (rawInt _))=d8 then _ else _) Q E s;rw [Ab (by intro h; rw [b,Bool.false_and] at h; cases h)];exact et c))
noncomputable def Itl (K:Frag) (a:Addr):It:=
 ⟨λi H=>∃ xs x,SqL K H a xs/\xs[i]?=d4 x,λi H x H'=>H'=H/\∀ xs,SqL K H a xs->xs[i]?=d4 x,λi H=>∃ xs,SqL K H a xs/\xs.length<=i⟩
noncomputable def Itt (K:Frag) (a:Addr):It:=
 ⟨λi H=>∃ xs x,SqT K H a xs/\xs[i]?=d4 x,λi H x H'=>H'=H/\∀ xs,SqT K H a xs->xs[i]?=d4 x,λi H=>∃ xs,SqT K H a xs/\xs.length<=i⟩
noncomputable def Itr (lo:Int) (n:Nat):It:=⟨λi _=>i < n,λi H x H'=>H'=H/\x=.int (lo+i),λi _=>n<=i⟩
variable {K:Frag} {tg:Expr}
theorem JW (a it:Addr):Turn P w K tg (Itl K a) [it] it (λi h=>h.IsListIter it a i) where
 mem:=by simp
 obj:=λi h st b f=>by
  have e:b=it:=by simpa using f
  subst e;obtain ⟨o,e,c,d⟩:=st;exact ⟨o,e,λv z=>by rw [d] at z; cases z⟩
 keep:=λi h h' st k=>st.at λo e=>k it (by simp) o e
 item:=by intro X m l n y i pins s σ H E I j st hg;subst m l n;obtain ⟨xs,x,hq,hx⟩:=hg;obtain ⟨its,r,p,C⟩:=I.list hq;obtain ⟨u,G,B⟩:=r.get hx;obtain ⟨f0,f1,f2,t,f4,q⟩:=j it (by simp);refine wpAny_pyNext_list_item st p.isList (x:=u) (by simpa using G) λh' g A=>?_;have L:Inv X pins σ H { s with heap:=h' }:=I.turned (t':=s.toks) (λb o f e=>(A.2 b f).trans e) f0 f1 t f4 q;obtain ⟨o,e,c,d⟩:=id g;exact ⟨u,rfl,Wy (s:={ s with heap:=h' }) e c d (by decide) ⟨x,H,L,B,⟨rfl,λys D=>by rw [I.list_inj D hq]; exact hx⟩,g,λb f=>(j b f).1⟩⟩
 done:=by intro X m l n y i pins s σ H E I j st hg;subst m l n;obtain ⟨xs,hq,hx⟩:=hg;obtain ⟨its,r,p,C⟩:=I.list hq;obtain ⟨f0,f1,f2,t,f4,q⟩:=j it (by simp);have hl:=r.length;exact wpAny_pyNext_list_end (I.ok.hd y) st p.isList (by simp; lia) λh' J=>⟨rfl,I.turned (t':=s.toks) (λb o f e=>J b o f e) f0 f1 t f4 q⟩
 self:=λ_ _ _ _ _ st h=>wpAny_pyIter_listiter st h
theorem QW (a it:Addr):Turn P w K tg (Itt K a) [it] it (λi h=>h.IsTupleIter it a i) where
 mem:=by simp
 obj:=λi h st b f=>by
  have e:b=it:=by simpa using f
  subst e;obtain ⟨o,e,c,d⟩:=st;exact ⟨o,e,λv z=>by rw [d] at z; cases z⟩
 keep:=λi h h' st k=>st.at λo e=>k it (by simp) o e
 item:=by intro X m l n y i pins s σ H E I j st hg;subst m l n;obtain ⟨xs,x,hq,hx⟩:=hg;obtain ⟨its,r,p,C⟩:=I.tuple hq;obtain ⟨u,G,B⟩:=r.get hx;obtain ⟨f0,f1,f2,t,f4,q⟩:=j it (by simp);refine wpAny_pyNext_tuple_item st (show s.heap.IsTuple a its.toArray from p) (x:=u) (by simpa using G) λh' g A=>?_;have L:Inv X pins σ H { s with heap:=h' }:=I.turned (t':=s.toks) (λb o f e=>(A.2 b f).trans e) f0 f1 t f4 q;obtain ⟨o,e,c,d⟩:=id g;exact ⟨u,rfl,Wy (s:={ s with heap:=h' }) e c d (by decide) ⟨x,H,L,B,⟨rfl,λys D=>by rw [I.tuple_inj D hq]; exact hx⟩,g,λb f=>(j b f).1⟩⟩
 done:=by intro X m l n y i pins s σ H E I j st hg;subst m l n;obtain ⟨xs,hq,hx⟩:=hg;obtain ⟨its,r,p,C⟩:=I.tuple hq;obtain ⟨f0,f1,f2,t,f4,q⟩:=j it (by simp);have hl:=r.length;exact wpAny_pyNext_tuple_end (I.ok.hd y) st (show s.heap.IsTuple a its.toArray from p) (by simp; lia) λh' J=>⟨rfl,I.turned (t':=s.toks) (λb o f e=>J b o f e) f0 f1 t f4 q⟩
 self:=λ_ _ _ _ _ st h=>wpAny_pyIter_tupleiter st h
theorem QX (it:Addr) (lo:Int) (n:Nat):Turn P w K tg (Itr lo n) [it] it (λi h=>IsRangeIter h it (lo+(i:Nat) * 1) ((n:Int) - (i:Nat)) 1) where
 mem:=by simp
 obj:=λi h st b d=>by
  have e:b=it:=by simpa using d
  subst e;exact ⟨_,st,λv z=>by have p:Data.fields _=Data.cell v:=z;cases p⟩
 keep:=λi h h' st k=>k it (by simp) _ st
 item:=by intro X m a j c i pins s σ H E I f st hg;subst m a j;obtain ⟨f0,f1,f2,l,f4,q⟩:=f it (by simp);have W:=Walks.range (prog:=X.prog) (w:=X.w) (I.ok.hd c) it lo 1 n;refine W.item i s _ _ hg st λv h' tk u g r=>?_;obtain ⟨t,rfl⟩:=u;have x:Inv X pins σ H { s with heap:=h',toks:=tk }:=I.turned (λb o d e=>r b o (by simpa using d) e) f0 f1 l f4 q;refine ⟨_,rfl,Wy (s:={ s with heap:=h',toks:=tk }) (n := "range_iterator") g rfl rfl (by decide) ⟨.int (lo+i),H,x,⟨t,?_⟩,⟨rfl,rfl⟩,g,λb d=>(f b d).1⟩⟩;rw [Int.mul_one]
 done:=by intro X m a j c i pins s σ H E I f st hg;subst m a j;obtain ⟨f0,f1,f2,l,f4,q⟩:=f it (by simp);exact wpAny_pyNext_range_end (I.ok.hd c) st (by have:n<=i:=hg; lia) λh' J=>⟨rfl,I.turned (t':=s.toks) (λb o d e=>J b o d e) f0 f1 l f4 q⟩
 self:=λ_ _ _ _ _ st h=>wpAny_pyIter_rangeiter st h
variable {p:Pos} {fp:List Addr}
section
theorem Wz {R:It->Hp->Prop} {E:d5->d9->Prop} {lo hi:Int} {t u v:Tok} {tk:Nat} (I:Inv X pins σ H s) (h1:-(2 ^ 62)<=lo) (h2:lo < 2 ^ 62) (j:-(2 ^ 62)<=hi) (a:hi < 2 ^ 62)
  (q:R (Itr lo (hi - lo).toNat) H):ez (model X.prog X.w) X.A (pyIter (.ref s.heap.objs.size)) (PIE X pins σ tg R) E { s with heap:=s.heap.push { cls:=.type "range",data:=.fields #[.int lo t,.int hi u,.int 1 v] },toks:=tk }:=by
 refine wpAny_pyIter_range (IsRange.new ..) (small_one h1 h2 j a) ?_;have d:Inv X pins σ H { s with heap:=s.heap.push { cls:=.type "range",data:=.fields #[.int lo t,.int hi u,.int 1 v] },toks:=tk }:=I.kept λb o e=>ae _ e;refine ⟨(s.heap.push { cls:=.type "range",data:=.fields #[.int lo t,.int hi u,.int 1 v] }).objs.size,[(s.heap.push { cls:=.type "range",data:=.fields #[.int lo t,.int hi u,.int 1 v] }).objs.size],_,_,H,rfl,d.kept (t':=tk) λb o e=>ae _ e,QX _ lo (hi - lo).toNat,?_,λb h=>?_,q⟩
 ·have e1:lo+((0:Nat):Int) * 1=lo:=by simp
  have c:(((hi - lo).toNat:Nat):Int) - ((0:Nat):Int)=Builtin.Range.rangeSize lo hi 1:=by rw [rangeSize_one]; split <;> lia
  show IsRangeIter _ _ (lo+((0:Nat):Int) * 1) ((((hi - lo).toNat:Nat):Int) - ((0:Nat):Int)) 1;rw [e1,c];exact aq _ rfl
 ·have e:b=(s.heap.push { cls:=.type "range",data:=.fields #[.int lo t,.int hi u,.int 1 v] }).objs.size:=by simpa using h
  subst e;exact d.fpOk (ao _) (d.hok.fresh (ao _))
def qaS (ta:TA):TI:=λσ H R=>ta σ H λvs H1=>∃ j:Int,vs=[.int j]/\-(2 ^ 62)<=j/\j < 2 ^ 62/\R (Itr 0 j.toNat) H1
theorem JX {a:Expr} {ta:TA} (hg:Gl X "range") (m:X.mg "range"=d6) (g:PA X [a] ta) (f:eh [a] X.env=[(d7,eval a X.env)]:=by rfl):PI X tg (.Call (.Name "range" p) [a] [] pos) (qaS ta):=by
 refine ⟨?_⟩;intro pins s σ H R I h;refine Call_ (Qg I hg m boot_range (PyProof.Rows.callWith_type1 (thn (g pos pins s σ H _ I h) λus s1 ⟨vs,H1,i,r1,b⟩=>?_) f rfl));obtain ⟨j,e,b,d,q⟩:=b;subst e;cases r1 with
 | cons r c=>cases c;obtain ⟨t,rfl⟩:=r;exact call_range_1 (Wz i (by lia) (by lia) b d (by simpa using q))
def qcn (wi:TI) (g:TG) (tb:TS):TS:=λD σ H=>wi σ H λJ H1=>∃ W:Nat->Nat->St->Hp->Prop,(∃ m,W 0 m σ H1)/\∀ i m σ H,W i m σ H ->(J.stop i H/\D.nx σ H)\/(J.go i H/\∃ N:St->Hp->Prop,(∀ σ' H',N σ' H'->∃ b,b < m/\W (i+1) b σ' H')/\∀ x H',J.yld i H x H'->g x σ H' λa H2=>tb { D with nx:=N,ct:=N,bk:=D.nx } a H2)
noncomputable def xT (fp:List Addr) (h:Heap):Pns:=fp.filterMap λb=>(h.get? b).map λo=>(b,o)
theorem vt {o:Obj} (d:b∈fp) (e:h.get? b=d4 o):(b,o)∈xT fp h:=c8.mpr ⟨b,d,by rw [e]; rfl⟩
theorem JY {p:Addr×Obj} (hp:p∈xT fp h):p.1∈fp/\h.get? p.1=d4 p.2:=by
 obtain ⟨b,d,e⟩:=c8.mp hp;cases q:h.get? b with
 | none=>rw [q] at e; cases e
 | some o=>rw [q] at e;have a:(b,o)=p:=ax.inj e;subst a;exact ⟨d,q⟩
theorem Inv.pinned (I:Inv X pins σ H s) (f:∀ b∈fp,gf X pins H b) (c:∀ b∈fp,∃ o,s.heap.get? b=d4 o/\∀ v,o.data≠.cell v):Inv X (pins++xT fp s.heap) σ H s:=
 I.pins_of λp hp=>(aP.mp hp).elim (λz=>I.pin p (aC _ z)) λz=>by obtain ⟨h,e⟩:=JY z;obtain ⟨f0,f1,f2,_⟩:=f p.1 h;obtain ⟨o,a,d⟩:=c p.1 h;rw [e] at a; cases a;exact ⟨e,f0,f1,f2,d⟩
theorem Inv.unpinned {pl:Pns} (I:Inv X (pins++pl) σ H s):Inv X pins σ H s:=I.pins_of λp hp=>I.pin p (aC _ (bu _ hp))
theorem ZO {iter:Expr} {y:List Stmt} {wi:TI} {g:TG} {tb:TS} {pos:Pos} (hp:PassesOwn (model X.prog X.w) X.A X.env X.xe) (S:X.calm=d8) (hi:PI X tg iter wi) (hg:PG X tg g) (j:PSs X y tb)
  (hs:∀ x,fT iter X.env x=pure x:=by intro _; rfl):PS X (.For tg iter y [] pos) (qcn wi g tb):=by
 refine ⟨?_⟩;intro pins s σ H D I h;refine wpAny_For (thn (hi pins s σ H _ I h) λv s1 h1=>thn h1 λitv s2 h2=>?_) hs;obtain ⟨it,fp,tn,J,H2,e,I2,T,M,f2,W,⟨m0,w0⟩,B⟩:=h2;subst e;have t:∀ {H':Hp},(∀ b∈fp,H' b=d6)->∀ b∈fp,gf X pins H' b:=λhn b j=>⟨hn b j,(f2 b j).2⟩
 refine codeAny_forLoop_any (λn s'=>∃ i σ' H',Inv X pins σ' H' s'/\tn i s'.heap/\(∀ b∈fp,H' b=d6)/\W i n σ' H') ?_ m0 ⟨0,σ,H2,I2,M,λb j=>(f2 b j).1,w0⟩;rintro n s3 ⟨i,c,K,U,C,G,w3⟩;rcases B i n c K w3 with ⟨stop,qn⟩ | ⟨go,N,hN,step⟩
 ·refine fQ hp (thn (T.done X rfl rfl rfl S i pins s3 c K X.xe U (t G) C stop) λr s4 ⟨P,I4⟩=>?_);subst P;exact wpAny_execs_nil ⟨c,K,I4,qn⟩
 ·refine fQ hp (thn (T.item X rfl rfl rfl S i pins s3 c K X.xe U (t G) C go) λr s4 ⟨u,P,h4⟩=>?_);subst P;refine fQ hp (thn h4 λ_ s5 ⟨x,V,I5,r5,Y,z,Q⟩=>?_);have R:=I5.pinned (t Q) (T.obj _ _ z);refine fQ hp (thn (hg _ s5 c V x u _ R r5 (step x V Y)) λ_ s6 ⟨L,H6,I6,q6⟩=>?_);refine fQ hp (thn (j _ s6 L H6 _ I6 q6) λf O q=>?_);have k:∀ {a:St} {p:Hp},Inv X (pins++xT fp s5.heap) a p O->N a p->∃ m,m < n/\∃ i σ' H',Inv X pins σ' H' O/\tn i O.heap/\(∀ b∈fp,H' b=d6)/\W i m σ' H':=λ{a p} l E=>by obtain ⟨m',hm,F⟩:=hN a p E;refine ⟨m',hm,i+1,a,p,l.unpinned,T.keep _ _ _ z λb j o e=>(l.pin (b,o) (aC _ (aC _ (vt j e)))).1,λb j=>?_,F⟩;obtain ⟨o,e,d⟩:=T.obj _ _ z b j;exact (l.pin (b,o) (aC _ (aC _ (vt j e)))).2.1
  cases f with
  | next=>obtain ⟨a,p,l,E⟩:=q; exact k l E
  | cont=>obtain ⟨a,p,l,E⟩:=q; exact k l E
  | brk=>obtain ⟨a,p,l,q⟩:=q; exact ⟨a,p,l.unpinned,q⟩
  | ret v=>obtain ⟨Z,a,p,l,r7,q⟩:=q; exact ⟨Z,a,p,l.unpinned,r7,q⟩
end
abbrev R2:=V->V->Hp->VK->Prop
def OpR (X:Cx) (f:d5->d5->Sem d5) (r:R2):Prop:=
 ∀ (pins:Pns) (s:d9) (σ:St) (H:Hp) (x y:V) (v u:d5) (Q:VK),Inv X pins σ H s->RelV x v->RelV y u->r x y H Q ->ez (model X.prog X.w) X.A (f v u) (EP X pins σ Q) X.xe s
def UnR (X:Cx) (f:d5->Sem d5) (r:V->Hp->VK->Prop):Prop:=
 ∀ (pins:Pns) (s:d9) (σ:St) (H:Hp) (x:V) (v:d5) (Q:VK),Inv X pins σ H s->RelV x v->r x H Q ->ez (model X.prog X.w) X.A (f v) (EP X pins σ Q) X.xe s
def vG (X:Cx) (f:d5) (r:List V->Hp->VK->Prop):Prop:=
 ∀ (pins:Pns) (s:d9) (σ:St) (H:Hp) (xs:List V) (us:List d5) (Q:VK),Inv X pins σ H s->Vals xs us->r xs H Q ->ez (model X.prog X.w) X.A (call f us) (EP X pins σ Q) X.xe s
def qco (X:Cx) (r:V->Hp->(Bool->Hp->Prop)->Prop):Prop:=
 ∀ (pins:Pns) (s:d9) (σ:St) (H:Hp) (x:V) (v:d5) (Q:Bool->Hp->Prop),Inv X pins σ H s->RelV x v->r x H Q ->ez (model X.prog X.w) X.A (truthy v) (TP X pins σ Q) X.xe s
def tOp (r:R2) (ta tb:TE):TE:=λσ H Q=>ta σ H λx H1=>tb σ H1 λy H2=>r x y H2 Q
def tUn (r:V->Hp->VK->Prop) (ta:TE):TE:=λσ H Q=>ta σ H λx H1=>r x H1 Q
def rI (C:Int->Int->Prop) (g:Int->Int->V):R2:=λx y H Q=>∃ i j,x=.int i/\y=.int j/\C i j/\Q (g i j) H
def rI0 (g:Int->Int->V):R2:=λx y H Q=>∃ i j,x=.int i/\y=.int j/\Q (g i j) H
def rU (g:Int->V):V->Hp->VK->Prop:=λx H Q=>∃ i,x=.int i/\Q (g i) H
variable {r:R2}
section
variable {a b:Expr} {tc:TE}
theorem qaT (j:PE X a ta) (i:PE X b tb) {R:V->V->Hp->Prop} (I:Inv X pins σ H s)
  (h:ta σ H λx H1=>tb σ H1 λy H2=>R x y H2) {Q:d5->d9->Prop} {f:d5->d5->Sem d5}
  (g:∀ v u s2 x y H2,Inv X pins σ H2 s2->RelV x v->RelV y u->R x y H2->ez (model X.prog X.w) X.A (f v u) Q X.xe s2) :
  ez (model X.prog X.w) X.A (eval a X.env) (λv d=>ez (model X.prog X.w) X.A (eval b X.env) (λu c=>ez (model X.prog X.w) X.A (f v u) Q X.xe c) X.xe d) X.xe s:=by
 refine thn (j pins s σ H _ I h) λv s1 ⟨x,H1,l,r1,e⟩=>?_;refine thn (i pins s1 σ H1 _ l e) λu s2 ⟨y,H2,k,r2,q⟩=>?_;exact g v u s2 x y H2 k r1 r2 q
theorem qaU {op:Operator} (o:OpR X (fq op) r) (g:PE X a ta) (e:PE X b tb):PE X (.BinOp a op b pos) (tOp r ta tb):=by refine ⟨?_⟩;intro pins s σ H Q I h;exact wpAny_BinOp (qaT g e I h λv u s2 x y H2 f d c q=>o pins s2 σ H2 x y v u Q f d c q)
theorem qaV {op:UnaryOp} {r:V->Hp->VK->Prop} (o:UnR X (unaryOp op) r) (g:PE X a ta):PE X (.UnaryOp op a pos) (tUn r ta):=by refine ⟨?_⟩;intro pins s σ H Q I h;exact UnaryOp_ (thn (g pins s σ H _ I h) λv s1 ⟨x,H1,d,r1,q⟩=>o pins s1 σ H1 x v Q d r1 q)
theorem opI {f:d5->d5->Sem d5} {C:Int->Int->Prop} {g:Int->Int->Int}
  (r:∀ (i j:Int) (t u:Tok) (s:d9) (Q:d5->d9->Prop) (E:d5->d9->Prop),C i j->Q (.int (g i j) s.toks) { s with toks:=s.toks+1 }->ez (model X.prog X.w) X.A (f (.int i t) (.int j u)) Q E s) :
  OpR X f (rI C λi j=>.int (g i j)):=by
 intro pins s σ H x y v u Q I d c h;obtain ⟨i,j,rfl,rfl,a,q⟩:=h;obtain ⟨t,rfl⟩:=d;obtain ⟨t',rfl⟩:=c;exact r i j t t' s _ _ a ⟨.int (g i j),H,I.tok _,⟨_,rfl⟩,q⟩
theorem qbO {f:d5->d5->Sem d5} {g:Int->Int->Int}
  (r:∀ (i j:Int) (t u:Tok) (s:d9) (Q:d5->d9->Prop) (E:d5->d9->Prop),Q (.int (g i j) s.toks) { s with toks:=s.toks+1 }->ez (model X.prog X.w) X.A (f (.int i t) (.int j u)) Q E s) :
  OpR X f (rI0 λi j=>.int (g i j)):=by
 intro pins s σ H x y v u Q I d c h;obtain ⟨i,j,rfl,rfl,q⟩:=h;obtain ⟨t,rfl⟩:=d;obtain ⟨t',rfl⟩:=c;exact r i j t t' s _ _ ⟨.int (g i j),H,I.tok _,⟨_,rfl⟩,q⟩
theorem qaW {f:d5->d5->Sem d5} {g:Int->Int->Bool}
  (r:∀ (i j:Int) (t u:Tok) (s:d9) (Q:d5->d9->Prop) (E:d5->d9->Prop),Q (.bool (g i j)) s->ez (model X.prog X.w) X.A (f (.int i t) (.int j u)) Q E s) :
  OpR X f (rI0 λi j=>.bl (g i j)):=by
 intro pins s σ H x y v u Q I d c h;obtain ⟨i,j,rfl,rfl,q⟩:=h;obtain ⟨t,rfl⟩:=d;obtain ⟨t',rfl⟩:=c;exact r i j t t' s _ _ ⟨.bl (g i j),H,I,rfl,q⟩
def qcp (i j:Int):Prop:=0 < j/\j < 1073741824
def qbP (i j:Int):Prop:=0<=j/\j<=1000000/\i.natAbs < 2 ^ 64
def CMul (i j:Int):Prop:=(-(2 ^ 64) < i/\i < 2 ^ 64)\/(-(2 ^ 64) < j/\j < 2 ^ 64)
theorem CMul.ok {i j:Int} (h:CMul i j):IntMulOk i j:=by
 rcases h with ⟨h1,h2⟩ | ⟨h1,h2⟩
 ·exact .of_left (intBits_le_64 h1 h2)
 ·exact .of_right (intBits_le_64 h1 h2)
theorem ZP:OpR X (fq .Add) (rI0 λi j=>.int (i+j)):=qbO λ_ _ _ _ _ _ _ q=>add_int q
theorem ZQ:OpR X (fq .Sub) (rI0 λi j=>.int (i - j)):=qbO λ_ _ _ _ _ _ _ q=>sub_int q
theorem ZR:OpR X (fq .Mult) (rI CMul λi j=>.int (i * j)):=opI λ_ _ _ _ _ _ _ d q=>mul_int q d.ok
theorem ZT:OpR X (fq .Mod) (rI (λ_ j=>0 < j) λi j=>.int (i % j)):=opI λi j _ _ _ _ _ d q=>by have h1:(0:Int) < j:=d;exact mod_int' (by lia) (by rw [Int.fmod_eq_emod_of_nonneg i (by lia)]; exact q)
theorem unI {f:d5->Sem d5} {g:Int->Int}
  (r:∀ (i:Int) (t:Tok) (s:d9) (Q:d5->d9->Prop) (E:d5->d9->Prop),Q (.int (g i) s.toks) { s with toks:=s.toks+1 }->ez (model X.prog X.w) X.A (f (.int i t)) Q E s) :
  UnR X f (rU λi=>.int (g i)):=by
 intro pins s σ H x v Q I d h;obtain ⟨i,rfl,q⟩:=h;obtain ⟨t,rfl⟩:=d;exact r i t s _ _ ⟨.int (g i),H,I.tok _,⟨_,rfl⟩,q⟩
theorem ZU:UnR X (unaryOp .USub) (rU λi=>.int (-i)):=unI λ_ _ _ _ _ q=>neg_int q
end
variable {op op':CmpOp} {r':R2}
section
variable {a b:Expr} {tc:TE}
theorem JZ {Q:VK} {k k':Bool} (I:Inv X pins σ H s) (q:Q (.bl k) H) (e:k=k'):EP X pins σ Q (.bool k') s:=by subst e;exact ⟨.bl k,H,I,rfl,q⟩
theorem qaX:OpR X (eJ .Lt) (rI0 λi j=>.bl (decide (i < j))):=qaW λ_ _ _ _ _ _ _ q=>lt_int q
theorem qaY:OpR X (eJ .LtE) (rI0 λi j=>.bl (decide (i<=j))):=qaW λ_ _ _ _ _ _ _ q=>le_int q
theorem qaZ:OpR X (eJ .GtE) (rI0 λi j=>.bl (decide (j<=i))):=qaW λ_ _ _ _ _ _ _ q=>ge_int q
theorem Ka:OpR X (eJ .Lt) (λx y H Q=>∃ i j,x=.str i/\y=.str j/\Q (.bl (decide (i.cps.toList < j.cps.toList))) H):=by intro pins s σ H x y v u Q I d c h;obtain ⟨i,j,rfl,rfl,q⟩:=h;obtain ⟨t,rfl⟩:=d;obtain ⟨t',rfl⟩:=c;exact lt_str (JZ I q rfl)
theorem YF:OpR X (eJ .IsNot) (λx y H Q=>y=.non/\Q (.bl (!decide (x=.non))) H):=by
 intro pins s σ H x y v u Q I d c h;obtain ⟨rfl,q⟩:=h;cases c;refine isnot_none_gen (JZ I q ?_);cases x <;> first
  | (cases d; rfl)
  | (obtain ⟨t,rfl⟩:=d; rfl)
theorem Yk (b:Expr) (h:op≠.In:=by decide) (h2:op≠.NotIn:=by decide):fO op b=false:=by
 have e1:(op == CmpOp.In)=false:=by cases op <;> first | rfl | exact absurd rfl h
 have j:(op == CmpOp.NotIn)=false:=by cases op <;> first | rfl | exact absurd rfl h2
 cases b <;> simp [fO,e1,j]
theorem YG (o:OpR X (eJ op) r) (g:PE X a ta) (e:PE X b tb) (m:fO op b=d7):PE X (.Compare a [op] [b] pos) (tOp r ta tb):=by refine ⟨?_⟩;intro pins s σ H Q I h;exact wpAny_Compare1 (qaT g e I h λv u s2 x y H2 f d c q=>o pins s2 σ H2 x y v u Q f d c q) m
def ZV (t:TE):TT:=λσ H Q=>t σ H λx H'=>∃ k,x=.bl k/\Q k H'
theorem YH (o:OpR X (eJ op) r) (i:PE X a ta) (g:PE X b tb) (m:fO op b=d7):PT X (.Compare a [op] [b] pos) (ZV (tOp r ta tb)):=by
 refine ⟨?_⟩;intro pins s σ H Q I h;refine wpAny_isTrue_Compare1 (thn (i pins s σ H _ I h) λv s1 ⟨x,H1,l,r1,f⟩=>thn (g pins s1 σ H1 _ l f) λu s2 ⟨y,H2,j,r2,d⟩=>
  thn (o pins s2 σ H2 x y v u _ j r1 r2 d) λc s3 ⟨z,K,U,r3,k,e,q⟩=>?_) m
 subst e;cases r3;exact fk ⟨K,U,q⟩
def Kb (r r':R2) (ta tb tc:TE):TE:=λσ H Q=>ta σ H λx H1=>tb σ H1 λy H2=>r x y H2 λz K=>∃ k,z=.bl k /\
 (if k=d8 then tc σ K λT a=>r' y T a Q else Q (.bl d7) K)
theorem WA (o:OpR X (eJ op) r) (f:OpR X (eJ op') r') (t:PE X a ta) (n:PE X b tb) (l:PE X c tc)
  (m:lastMarks [op,op'] [b,c]=false:=by with_unfolding_all rfl):PE X (.Compare a [op,op'] [b,c] pos) (Kb r r' ta tb tc):=by
 refine ⟨?_⟩;intro pins s σ H Q I h;refine Compare_chain (thn (t pins s σ H _ I h) λv s1 ⟨x,H1,B,r1,j⟩=>chain_link (thn (n pins s1 σ H1 _ B j) λu s2 ⟨y,H2,A,r2,i⟩=>
  thn (o pins s2 σ H2 x y v u _ A r1 r2 i) λd s3 ⟨z,K,U,r3,k,e,q⟩=>?_)) m
 subst e;cases r3;refine fk ?_;cases k with
 | false=>exact ite_ff ⟨.bl d7,K,U,rfl,q⟩
 | true=>exact ite_tt (chain_last (thn (l pins s3 σ K _ U q) λT s4 ⟨p,C,w,r4,g⟩=>f pins s4 σ C y p u T Q w r2 r4 g))
theorem WB (o:OpR X (eJ op) r) (f:OpR X (eJ op') r') (A:PE X a ta) (w:PE X b tb) (t:PE X c tc)
  (n:lastMarks [op,op'] [b,c]=false:=by with_unfolding_all rfl):PT X (.Compare a [op,op'] [b,c] pos) (ZV (Kb r r' ta tb tc)):=by
 refine ⟨?_⟩;intro pins s σ H Q I h;refine isTrue_chain (thn (A pins s σ H _ I h) λv s1 ⟨x,H1,J,r1,l⟩=>test_link (thn (w pins s1 σ H1 _ J l) λu s2 ⟨y,H2,G,r2,j⟩=>
  thn (o pins s2 σ H2 x y v u _ G r1 r2 j) λd s3 ⟨z,K,U,r3,k,e,q⟩=>?_)) n
 subst e;cases r3;refine fk ?_;cases k with
 | false=>obtain ⟨k',C,m⟩:=q;cases C;exact ite_ff ⟨K,U,m⟩
 | true=>refine ite_tt (test_last (thn (t pins s3 σ K _ U q) λT s4 ⟨p,L,E,r4,i⟩=>thn (f pins s4 σ L y p u T _ E r2 r4 i) λd' s5 ⟨M,V,D,r5,k2,B,g⟩=>?_));subst B;cases r5;exact fk ⟨V,D,g⟩
def qa0 (K:Frag) (x:V) (H:Hp) (k:Bool):Prop:=
 match x with
 | .non=>k=d7
 | .bl b=>k=b
 | .int i=>k=(i != 0)
 | .str y=>y.length<=sizeLine/\k=((y.length:Int) != 0)
 | .byt y=>y.size<=sizeLine/\k=((y.size:Int) != 0)
 | .ref p=>(∃ xs,SqL K H p xs/\k=!xs.isEmpty)\/(∃ xs,SqT K H p xs/\k=!xs.isEmpty)\/∃ kvs,H p=d4 (.dK kvs)/\k=!kvs.isEmpty
 | _=>False
theorem QY {κ:Type} {kvs:List (κ×V)} {vs:List (κ×d5)} (r:KV kvs vs):(!vs.isEmpty)=!kvs.isEmpty:=by cases r <;> rfl
theorem yE {its:List d5} (r:Vals xs its):(!its.toArray.isEmpty)=!xs.isEmpty:=by cases r <;> simp
theorem xU:(sizeLine:Nat) < 2 ^ 63:=by rw [ff]; decide
theorem ZW:qco X (λx H Q=>∃ k,qa0 X.K x H k/\Q k H):=by
 intro pins s σ H x v Q I d h;obtain ⟨k,e,q⟩:=h;have hl:=xU;have c:sizeLine=16777216:=ff;cases x with
 | non=>cases d;have a:k=false:=e;subst a;exact truthy_none ⟨H,I,q⟩
 | bl b=>cases d;have a:k=b:=e;subst a;exact fk ⟨H,I,q⟩
 | int i=>obtain ⟨t,rfl⟩:=d;have a:k=(i != 0):=e;subst a;exact PySem.P.truthy_int ⟨H,I,q⟩
 | str y=>obtain ⟨t,rfl⟩:=d;obtain ⟨hy,a⟩:y.length<=sizeLine/\k=((y.length:Int) != 0):=e;subst a;exact PySem.P.truthy_str (by lia) ⟨H,I.tok _,q⟩
 | byt y=>obtain ⟨t,rfl⟩:=d;obtain ⟨hy,a⟩:y.size<=sizeLine/\k=((y.size:Int) != 0):=e;subst a;exact PySem.W.truthy_bytes (by lia) ⟨H,I.tok _,q⟩
 | ref p=>
  cases d;have a:(∃ xs,SqL X.K H p xs/\k=!xs.isEmpty)\/(∃ xs,SqT X.K H p xs/\k=!xs.isEmpty)\/∃ kvs,H p=d4 (.dK kvs)/\k=!kvs.isEmpty:=e;rcases a with ⟨xs,hx,a⟩ | ⟨xs,hx,a⟩ | ⟨kvs,hx,a⟩
  ·subst a;obtain ⟨its,r,pl,C⟩:=I.list hx;have n:=r.length;exact wpAny_truthy_list pl.isList (by simp only [ah]; lia) ⟨H,I.tok _,by rw [yE r]; exact q⟩
  ·subst a;obtain ⟨its,r,pl,C⟩:=I.tuple hx;have n:=r.length;exact truthy_tuple pl (by simp only [ah]; lia) ⟨H,I.tok _,by rw [yE r]; exact q⟩
  ·subst a;obtain ⟨C,hS,vs,r,m⟩:kvs.length<=sizeLine/\(p == ia)=d7/\∃ vs,KV kvs vs/\s.heap.DictOf (jM X.prog X.w) p vs:=I.hok p _ hx;have n:kvs.length=vs.length:=dH r;exact wpAny_truthy_dict hS m (by lia) ⟨H,I.tok _,by rw [QY r]; exact q⟩
 | _=>exact (show False from e).elim
theorem WC (g:PE X a ta) (i:∀ whole,isTrue a X.env whole=(do let v <-whole; standAt a.pos; holding [v] (truthy v))):PT X a (λσ H Q=>ta σ H λx H'=>∃ k,qa0 X.K x H' k/\Q k H'):=by refine ⟨?_⟩;intro pins s σ H Q I h;exact isTrue_plain (thn (g pins s σ H _ I h) λv s1 ⟨x,H1,d,r1,q⟩=>ZW pins s1 σ H1 x v Q d r1 q) (i _)
theorem QZ:OpR X (fq .Add) (λx y H Q=>∃ i j,x=.str i/\y=.str j/\i.length+j.length<=sizeLine/\Q (.str (i++j)) H):=by intro pins s σ H x y v u Q I d c h;obtain ⟨i,j,rfl,rfl,C,q⟩:=h;obtain ⟨t,rfl⟩:=d;obtain ⟨t',rfl⟩:=c;exact add_str (λt' tk=>⟨.str (i++j),H,I.tok _,⟨_,rfl⟩,q⟩) C
theorem yZ {x:V} (r:Vals [x] us):∃ u,us=[u]/\RelV x u:=by
 cases r with
 | cons r1 r2=>cases r2; exact ⟨_,rfl,r1⟩
theorem WD {x y:V} (r:Vals [x,y] us):∃ u T,us=[u,T]/\RelV x u/\RelV y T:=by
 cases r with
 | cons r1 r2=>
  cases r2 with
  | cons r3 r4=>cases r4; exact ⟨_,_,rfl,r1,r3⟩
theorem Kc (d:X.calm=d8):vG X (.builtin "max") (λxs H Q=>∃ i j,xs=[.int i,.int j]/\Q (.int (if j > i then j else i)) H):=by
 intro pins s σ H xs us Q I r h;obtain ⟨i,j,rfl,q⟩:=h;obtain ⟨u,T,rfl,⟨t,rfl⟩,⟨t',rfl⟩⟩:=WD r;refine max_two_ints (I.ok.hd d) λh' tk k=>⟨_,H,I.kept k,?_,q⟩
 by_cases G:j > i;·rw [Aa G,Aa G]; exact ⟨_,rfl⟩
 ·rw [Ab G,Ab G]; exact ⟨_,rfl⟩
theorem Ke (d:X.calm=d8):vG X (.builtin "min") (λxs H Q=>∃ i j,xs=[.int i,.int j]/\Q (.int (if j < i then j else i)) H):=by
 intro pins s σ H xs us Q I r h;obtain ⟨i,j,rfl,q⟩:=h;obtain ⟨u,T,rfl,⟨t,rfl⟩,⟨t',rfl⟩⟩:=WD r;refine min_two_ints (I.ok.hd d) λh' tk k=>⟨_,H,I.kept k,?_,q⟩
 by_cases G:j < i;·rw [Aa G,Aa G]; exact ⟨_,rfl⟩
 ·rw [Ab G,Ab G]; exact ⟨_,rfl⟩
def qcq (K:Frag) (x:V) (H:Hp) (n:Nat):Prop:=
 match x with
 | .str y=>y.length<=sizeLine/\n=y.length
 | .byt y=>y.size<=sizeLine/\n=y.size
 | .ref p=>(∃ xs,SqL K H p xs/\n=xs.length)\/∃ xs,SqT K H p xs/\n=xs.length
 | _=>False
theorem xa:vG X (.builtin "len") (λxs H Q=>∃ x n,xs=[x]/\qcq X.K x H n/\Q (.int n) H):=by
 intro pins s σ H xs us Q I r h;obtain ⟨x,n,rfl,e,q⟩:=h;obtain ⟨u,rfl,d⟩:=yZ r;have hl:=xU;have c:sizeLine=16777216:=ff;cases x with
 | str y=>obtain ⟨t,rfl⟩:=d;obtain ⟨hy,b⟩:y.length<=sizeLine/\n=y.length:=e;subst b;exact len_str (by lia) ⟨.int _,H,I.tok _,⟨_,rfl⟩,q⟩
 | byt y=>obtain ⟨t,rfl⟩:=d;obtain ⟨hy,b⟩:y.size<=sizeLine/\n=y.size:=e;subst b;exact PySem.W.len_bytes (by lia) ⟨.int _,H,I.tok _,⟨_,rfl⟩,q⟩
 | ref p=>
  cases d;have b:(∃ xs,SqL X.K H p xs/\n=xs.length)\/∃ xs,SqT X.K H p xs/\n=xs.length:=e;rcases b with ⟨xs,hx,b⟩ | ⟨xs,hx,b⟩
  ·subst b;obtain ⟨its,r',pl,C⟩:=I.list hx;have a:=r'.length;exact Calls.call_len_list pl.isList (by simp only [ah]; lia) ⟨.int xs.length,H,I.tok _,⟨_,by simp only [ah]; rw [a]⟩,q⟩
  ·subst b;obtain ⟨its,r',pl,C⟩:=I.tuple hx;have a:=r'.length;exact len_tuple pl (by simp only [ah]; lia) ⟨.int xs.length,H,I.tok _,⟨_,by simp only [ah]; rw [a]⟩,q⟩
 | _=>exact (show False from e).elim
end
structure ObjM (h:Heap) (x dx C:Addr) (mA:Str->Option d5):Prop where
 obj:h.get? x=d4 (bw C dx)
 ns:h.Ns1 dx mA
 ne:dx≠x
variable {dx:Addr} {mA:Str->Option d5}
theorem Kf (n:h.Ns1 dx mA):∃ od,h.get? dx=d4 od/\∀ name,c9 name od=d4 (mA name):=by
 obtain ⟨o,es,p,s,hd,k,_,c⟩:=n;refine ⟨o,s,λname=>?_⟩;have e:=c name;unfold nsFind findBy at e;rw [<-Array.find?_toList] at e;unfold c9;rw [hd];dsimp only;split;·rename_i y q;rw [q] at e;exact congrArg d4 e
 ·rename_i q;rw [q] at e;have a:es.toList.any (·.refKey)=false:=by rw [List.any_eq_false];intro y D;obtain ⟨z,t,b⟩:=k y (Array.mem_toList_iff.mp D);simp [DictEntry.refKey,b]
  have d:¬es.toList.any (·.refKey)=true:=by rw [a]; exact bq
  rw [Ab d];exact congrArg d4 e
variable {C:Addr}
theorem ObjM.look {x:Addr} (I:ObjM h x dx C mA):∃ od,PySem.W.InstAt h x (bw C dx) C (d4 od)/\∀ name,c9 name od=d4 (mA name):=
 let ⟨od,s,hl⟩:=Kf I.ns
 ⟨od,⟨I.obj,rfl,rfl,s⟩,hl⟩
variable {f:Addr}
section
variable {prog:eH} {x:Addr} {name:Str} {v:d5}
theorem YI {e:Bool} {Q:d5->d9->Prop} (X:K.In s.heap) (I:ObjM s.heap x dx C mA) (hg:bO K C name=d8) (b:cA K C=d8)
  (g:aD K (.ref C) name=d4 d6) (c:mA name=d4 v) (a:PySem.W.handedIn v=d8) (h:Q v { s with toks:=s.toks+1 }) :
  ez (model prog w) A (getAttr (.ref x) name e) Q E s:=by
 obtain ⟨od,J,hl⟩:=I.look;exact PySem.W.get_value X J (cX hg).1 (PySem.W.findObj_own b g rfl (by rw [hl,c])) a h
theorem WE {pl:Sem Bool} {Q:d5×List d5->d9->Prop} (X:K.In s.heap) (I:ObjM s.heap x dx C mA) (hg:bO K C name=d8)
  (a:aD K (.ref C) name=d4 (d4 (.ref f))) (m:cZ K (.ref f)=d8) (c:mA name=d6) (h:Q (.ref f,[.ref x]) s) :
  ez (model prog w) A (getMethod (.ref x) name pl) Q E s:=by
 obtain ⟨od,J,hl⟩:=I.look;exact PySem.W.method_fn X J (cX hg).1 (cX hg).2 a (beq_iff_eq.mp m) (by show (c9 name od).map (·.isSome)=d4 d7; rw [hl,c]; rfl) h
theorem WF {R:Result->d9->Prop} {vs:List d5} {kw:List (Str×d5)} (X:K.In s.heap) (c:dw K C=d8)
  (hi:aD K (.ref C) "__init__"=d4 (d4 (.ref f))) (a:PySem.W.typeIn K (.ref f)=d4 (.type "function"))
  (h:fE (model prog w) (A.under (.builtin "type.__call__" ⟨.ref C::vs,kw⟩)) (.call (.ref f) ⟨.ref (s.heap.objs.size+1)::vs,kw⟩) (PySem.W.InitBack (s.heap.objs.size+1) R)
   { s with heap:=(s.heap.push bb).push (bw C s.heap.objs.size) }) :
  fE (model prog w) A (.call (.ref C) ⟨vs,kw⟩) R s:=by
 obtain ⟨b,g,d,t,os⟩:=s;exact PySem.W.make_core (PySem.W.makes_of X c) (PySem.W.looks_findIn X hi) (λself=>PySem.W.bind_fn X self a) (.inl rfl) h
end
theorem RelO.some_of {o:Option d5} (r:RelO (d4 v) o):∃ u,o=d4 u/\RelV v u:=by
 cases o with
 | none=>exact (show False from r).elim
 | some u=>exact ⟨u,rfl,r⟩
theorem RelO.none_of {o:Option d5} (r:RelO d6 o):o=none:=by
 cases o with
 | none=>rfl
 | some u=>exact (show False from r).elim
theorem Kg (r:RelV v u):PySem.W.handedIn u=true:=by
 cases v with
 | non=>cases (show u=c6 from r); rfl
 | bl b=>cases (show u=aG b from r); rfl
 | int i=>obtain ⟨t,e⟩:=(show ∃ t,u=dF i t from r); cases e; rfl
 | str x=>obtain ⟨t,e⟩:=(show ∃ t,u=dG x t from r); cases e; rfl
 | byt b=>obtain ⟨t,e⟩:=(show ∃ t,u=Value.bytes b t from r); cases e; rfl
 | flt b=>obtain ⟨t,e⟩:=(show ∃ t,u=Value.float b t from r); cases e; rfl
 | ref a=>cases (show u=bi a from r); rfl
 | ty n=>cases (show u=cF n from r); rfl
section
variable {fs fs':List (Str×V)}
theorem Kh (hok:HOk P w H h) (e:H a=d4 (.ins C dx fs)):∃ mA,ObjM h a dx C mA/\(∀ f,RelO (fs.lookup f) (mA f))/\PySem.Within mA (fs.map (·.1))/\fs.length<=1000/\H dx=d4 (.own a):=by
 obtain ⟨d,z,ne,b,mA,n,r,q⟩:=(show ObjOk P w H h a (.ins C dx fs) from hok a _ e)
 exact ⟨mA,⟨b,n,ne⟩,r,q,z,d⟩
end
structure Cls (K:Frag) (C:Addr):Prop where
 pg:bO K C dS=d8
 hd:cA K C=d8
 po:dg K C=d8
 sa:aD K (.ref C) "__setattr__"=d4 (d4 (.builtin "object.__setattr__"))
theorem Cls.get (c:Cls K C) (f:Str):bO K C f=true:=c.pg
def Qh (K:Frag) (C:Addr) (f:Str):Prop:=aD K (.ref C) f=d4 d6
structure Meth (K:Frag) (C:Addr) (m:Str) (f:Addr):Prop where
 at_:aD K (.ref C) m=d4 (d4 (.ref f))
 fn:cZ K (.ref f)=d8
 kp:fU K (.ref f)=d8
variable {m:Str}
section
variable {fs:List (Str×V)} {f:Str}
theorem Ja {b:Bool} {Q:d5->d9->Prop} (I:Inv X pins σ H s) (e:H a=d4 (.ins C dx fs)) (c:Cls X.K C) (n:Qh X.K C f) (l:fs.lookup f=d4 v)
  (h:∀ u s',Inv X pins σ H s'->RelV v u->Q u s'):ez (model X.prog X.w) A (getAttr (.ref a) f b) Q E s:=by
 obtain ⟨mA,O,r,_,_,_⟩:=Kh I.hok e;obtain ⟨u,d,B⟩:=RelO.some_of (v:=v) (o:=mA f) (by rw [<-l]; exact r f);exact YI I.kIn O (c.get f) c.hd n d (Kg B) (h u _ (I.tok _) B)
theorem Jb {g:Addr} {pl:Sem Bool} {Q:d5×List d5->d9->Prop} (I:Inv X pins σ H s) (e:H a=d4 (.ins C dx fs)) (c:Cls X.K C) (k:Meth X.K C m g) (l:fs.lookup m=d6)
  (h:Q (.ref g,[.ref a]) s):ez (model X.prog X.w) A (getMethod (.ref a) m pl) Q E s:=by
 obtain ⟨mA,O,r,_,_,_⟩:=Kh I.hok e;have n:mA m=none:=RelO.none_of (by rw [<-l]; exact r m);exact WE I.kIn O (c.get m) k.at_ k.fn n h
theorem Inv.made (I:Inv X pins σ H s):Inv X pins σ (upd (upd H s.heap.objs.size (.own (s.heap.objs.size+1))) (s.heap.objs.size+1) (.ins C s.heap.objs.size []))
  { s with heap:=(s.heap.push bb).push (bw C s.heap.objs.size) }:=by
 have e1:(s.heap.push bb).get? s.heap.objs.size=d4 bb:=aq s.heap rfl;have j:((s.heap.push bb).push (bw C s.heap.objs.size)).get? (s.heap.objs.size+1)=d4 (bw C s.heap.objs.size):=by have:=aq (s.heap.push bb) (o:=bw C s.heap.objs.size) rfl;rwa [dE] at this
 have E:(s.heap.push bb).Ns s.heap.objs.size (λ_=>d6):=⟨bb,#[],_,e1,rfl,(λe i=>absurd i (by simp)),λ_=>rfl⟩
 have d:=I.laid (a:=s.heap.objs.size) (o:=.own (s.heap.objs.size+1)) (h':=s.heap.push bb) (t':=s.toks) (λb u q=>ae _ q) (ao _) ⟨_,e1⟩;refine d.laid (a:=s.heap.objs.size+1) (o:=.ins C s.heap.objs.size []) (t':=s.toks) (λb u q=>ae _ q) (dP (dE _ _)) ?_;have ne:s.heap.objs.size≠s.heap.objs.size+1:=aE (Nat.lt_succ_self _);refine ⟨by rw [qu ne,ql],cw _,ne,j,λ_=>d6,(Heap.Ns1.of_empty E).at λo q=>ae _ q,λ_=>cG,λy D=>absurd rfl D⟩
theorem YJ {prog:eH} {w:eI} {env:Env} {f:Str} {pos:Pos} {s:d9} {Q:d5->d9->Prop} (b:fg e f env (eval e env)=eval e env)
  (h:ez (model prog w) A (eval e env) (λo d=>ez (model prog w) A (getAttr o f d8) Q E d) E s):ez (model prog w) A (eval (.Attribute e f pos) env) Q E s:=
 Attribute_any_ h (by rw [arm_eval_Attribute,b])
end
def qcr (K:Frag) (ta:TE) (f:Str):TE:=λσ H Q=>ta σ H λx H1=>∃ a C dx fs v,x=.ref a/\H1 a=d4 (.ins C dx fs)/\Cls K C/\Qh K C f/\fs.lookup f=d4 v/\Q v H1
section
variable {o value:Expr} {f:Str} {tpos:Pos} {tv:TE}
theorem ZX (i:PE X e ta) (b:fg e f X.env (eval e X.env)=eval e X.env):PE X (.Attribute e f pos) (qcr X.K ta f):=by refine ⟨?_⟩;intro pins s σ H Q I h;refine YJ b (thn (i pins s σ H _ I h) λu s1 ⟨x,H1,k,d,a,C,dx,fs,v,ex,g,c,n,l,q⟩=>?_);subst ex;obtain rfl:u=bi a:=d;exact Ja k g c n l λW s2 j B=>⟨v,H1,j,B,q⟩
end
structure Room (k:Nat) (A:eZ):Prop where
 hd:A.handled=d6
 dp:A.depth+3 * k+5 < f9
 un:A.units+16 * k+200 < fz
theorem Room.mono {k:Nat} (r:Room k A) (h:j<=k):Room j A:=⟨r.hd,by have:=r.dp; lia,by have:=r.un; lia⟩
theorem Room.deeper {k:Nat} (r:Room (k+1) A) (env:Env):Room k (A.deeper env):=
 ⟨r.hd,by have:=r.dp; show A.depth+1+3 * k+5 < _; lia,by have:=r.un; show A.units+3+16 * k+200 < _; lia⟩
variable {kw:List (Str×d5)}
theorem Jc:(A.under (.builtin "type.__call__" ⟨.ref C::us,kw⟩)).depth=A.depth+1:=by first | rfl | simp [dQ,Code.weight,Code.isCreation,Code.isGuard,Code.isCaller,Code.frames,dR,guardIds]
theorem Jd:(A.under (.builtin "type.__call__" ⟨.ref C::us,kw⟩)).units=A.units+1:=by first | rfl | simp [dQ,Code.cUnits,Code.frames,dR]
theorem Room.make {k:Nat} (r:Room (k+1) A) (C:Addr) (us:List d5) (kw:List (Str×d5)):Room k (A.under (.builtin "type.__call__" ⟨.ref C::us,kw⟩)):=
 ⟨r.hd,by have:=r.dp; rw [Jc]; lia,by have:=r.un; rw [Jd]; lia⟩
theorem Room.depth {k:Nat} (r:Room k A):A.depth < f9:=by have:=r.dp; lia
theorem Room.units {k:Nat} (r:Room k A):A.units+64 < fz:=by have:=r.un; lia
def ZY:TA:=λ_ H Q=>Q [] H
def Je (ta:TE) (t:TA):TA:=λσ H Q=>ta σ H λx H1=>t σ H1 λxs H2=>Q (x::xs) H2
variable {t:TA} {es:List Expr}
section
theorem jw:PA X [] ZY:=⟨λ_ _ _ _ H Q I h=>Calls.spliced_nil ⟨[],H,I,.nil,h⟩⟩
theorem qF (g:PE X e te) (f:PA X es t) (c:eh (e::es) X.env=(d7,eval e X.env)::eh es X.env:=by rfl):PA X (e::es) (Je te t):=by refine ⟨?_⟩;intro pos pins s σ H Q I h;rw [c];show ez _ _ (spliced ((d7,eval e X.env)::e9 pos (eh es X.env))) _ _ s;refine Calls.spliced_cons (thn (g pins s σ H _ I h) λu s1 ⟨x,H1,b,r1,q⟩=>?_);exact thn (f pos pins s1 σ H1 _ b q) λus s2 ⟨xs,H2,a,r2,d⟩=>⟨x::xs,H2,a,.cons r1 r2,d⟩
def qcs (t:TA):TE:=λσ H Q=>t σ H λxs H1=>xs.length<=sizeLine/\∀ p,H1 p=d6->Q (.ref p) (upd H1 p (.tup xs))
def qct (t:TA):TE:=λσ H Q=>t σ H λxs H1=>xs.length<=sizeLine/\∀ p,H1 p=d6->Q (.ref p) (upd H1 p (.lst xs))
theorem ZZ {x1} (h:PA X es t):PE X (.Tuple es x1 pos) (qcs t):=by refine ⟨?_⟩;intro pins s σ H Q I hq;refine wpAny_Tuple_spliced (thn (h pos pins s σ H _ I hq) λus s1 ⟨xs,H1,d,r,z,q⟩=>⟨by rw [<-r.length]; exact z,?_⟩);have f:H1 s1.heap.objs.size=none:=d.hok.fresh (ao _);refine ⟨.ref s1.heap.objs.size,upd H1 s1.heap.objs.size (.tup xs),d.laid (t':=s1.toks) (λb u e=>ae _ e) (ao _) ?_,rfl,q _ f⟩;exact ⟨⟨z,_,aq _ rfl,rfl⟩,us,r,⟨_,aq _ rfl,rfl,_,rfl⟩⟩
theorem Ga (h:PA X es t):PE X (.List es pos) (qct t):=by refine ⟨?_⟩;intro pins s σ H Q I hq;refine wpAny_List_spliced (thn (h pos pins s σ H _ I hq) λus s1 ⟨xs,H1,d,r,z,q⟩=>⟨by rw [<-r.length]; exact z,?_⟩);have f:H1 s1.heap.objs.size=none:=d.hok.fresh (ao _);refine ⟨.ref s1.heap.objs.size,upd H1 s1.heap.objs.size (.lst xs),d.laid (t':=s1.toks) (λb u e=>ae _ e) (ao _) ?_,rfl,q _ f⟩;exact ⟨z,us,0,r,aq _ rfl⟩
end
abbrev Sp:=List V->Hp->VK->XK->Prop
abbrev CXT:=List Env->Hp->d9->XK->d5->d9->Prop
structure Env0 (P:eH) (w:eI) (K:Frag) (mg:Str->Option d5) (base:Heap) (A:eZ) (outer:List Env) (s:d9) (H:Hp):Prop where
 frames:A.frames=d4 outer
 mod:Mod K mg base
 bs:∀ b o,base.get? b=d4 o->s.heap.get? b=d4 o/\H b=d6
 bsz:base.objs.size<=s.heap.objs.size
 funs:s.heap.FunFrames base outer
 frf:∀ b∈frs outer,H b=d6
 hok:HOk P w H s.heap
 bare:fX s.gens
def CE (outer:List Env) (P:eH) (w:eI) (H:Hp) (s:d9) (Q:VK) (u:d5) (s':d9):Prop:=
 ∃ v H',s'.os=s.os/\fX s'.gens/\Un (frs outer) [] H H' s.heap s'.heap/\HOk P w H' s'.heap/\RelV v u/\Q v H'
def CR (CX:CXT) (outer:List Env) (P:eH) (w:eI) (H:Hp) (s:d9) (Q:VK) (E:XK) (r:Result) (s':d9):Prop:=
 match r with
 | .ok (.ret u)=>CE outer P w H s Q u s'
 | .ok _=>False
 | .error e=>CX outer H s E e s'
structure FnOk (P:eH) (w:eI) (K:Frag) (mg:Str->Option d5) (base:Heap) (CX:CXT) (k:Nat) (f:Addr) (fd:fA) (ps:List Str) (sp:Sp):Prop where
 len:∀ vs H Q E,sp vs H Q E->vs.length=ps.length
 run:∀ (A:eZ) (outer:List Env) (s:d9) (H:Hp) (args:Args) (us:List d5) (vs:List V) (Q:VK) (E:XK),Room k A->Env0 P w K mg base A outer s H->ip s fd args (ps.zip us)->Vals vs us->sp vs H Q E ->fE (model P w) A (.call (.ref f) args) (CR CX outer P w H s Q E) s
variable {mg:Str->Option d5} {base:Heap} {CX:CXT} {fd:fA} {ps:List Str} {sp:Sp}
theorem FnOk.mono {k:Nat} (F:FnOk P w K mg base CX j f fd ps sp) (h:j<=k):FnOk P w K mg base CX k f fd ps sp:=⟨F.len,λA outer s H args us vs Q E r=>F.run A outer s H args us vs Q E (r.mono h)⟩
theorem FnOk.imp {k:Nat} {a:Sp} (F:FnOk P w K mg base CX k f fd ps sp)
  (h:∀ vs H Q E,a vs H Q E->sp vs H Q E):FnOk P w K mg base CX k f fd ps a:=
 ⟨λvs H Q E q=>F.len vs H Q E (h _ _ _ _ q),λA outer s H args us vs Q E r i d c b=>F.run A outer s H args us vs Q E r i d c (h _ _ _ _ b)⟩
theorem Env0.make {outer:List Env} (e:Env0 P w K mg base A outer s H) (C:Addr) (us:List d5) (kw:List (Str×d5)):Env0 P w K mg base (A.under (.builtin "type.__call__" ⟨.ref C::us,kw⟩)) outer s H:=⟨by first | exact e.frames | (simpa [dQ,Code.envs,dR,pushEnvs] using e.frames),e.mod,e.bs,e.bsz,e.funs,e.frf,e.hok,e.bare⟩
section
theorem Inv.env0 (I:Inv X pins σ H s):Env0 X.prog X.w X.K X.mg X.base X.A X.stack s H:=
 ⟨I.ok.frames,I.ok.mod,I.bs,br I.ok.bsz I.sz,I.stack,I.stkFree,I.hok,I.bare⟩
theorem Inv.after {Q:VK} (I:Inv X pins σ H s) (h:CE X.stack X.prog X.w H s Q u s'):EP X pins σ Q u s':=by obtain ⟨v,H',os,bare,un,hok,r,q⟩:=h;obtain ⟨a,g,d,t,o⟩:=s';obtain rfl:o=s.os:=os;exact ⟨v,H',I.call (h':=a) (g':=g) (d':=d) (t':=t) (ch:=[]) un hok bare (λb z=>absurd z (by simp)),r,q⟩
end
def qa1 (sp:Sp) (dvs:List V) (E:XK) (t:TA):TE:=λσ H Q=>t σ H λvs H1=>sp (vs++dvs) H1 Q E
def qa2 (C:Addr) (m:Str) (sp:Sp) (dvs:List V) (E:XK) (ta:TE) (t:TA):TE:=λσ H Q=>ta σ H λx H1=>∃ a dx fs,x=.ref a/\H1 a=d4 (.ins C dx fs)/\fs.lookup m=d6 /\
 t σ H1 λvs H2=>sp (x::(vs++dvs)) H2 Q E
def qa3 (C:Addr) (sp:Sp) (dvs:List V) (E:XK) (t:TA):TE:=λσ H Q=>t σ H λvs H1=>∀ x dx,H1 x=d6->H1 dx=d6->dx≠x ->sp (.ref x::(vs++dvs)) (upd (upd H1 dx (.own x)) x (.ins C dx [])) (λv H2=>v=.non/\Q (.ref x) H2) E
def Binds (K:Frag) (fd:fA) (ps:List Str) (ds:List d5):Prop:=
 ∀ (s:d9) (us:List d5),K.In s.heap->(us++ds).length=ps.length->ip s fd ⟨us,[]⟩ (ps.zip (us++ds))
theorem Binds.all (h:∀ us:List d5,us.length=ps.length->fG fd ⟨us,[]⟩=pure (ps.zip us)):Binds K fd ps []:=λs us _ hl=>by rw [aS] at hl ⊢;exact .of_eq (h us hl)
def jr (CX:CXT) (X:Cx) (E:XK):Prop:=∀ (pins:Pns) (σ:St) (H:Hp) (s:d9) (e:d5) (s':d9),Inv X pins σ H s->CX X.stack H s E e s'->X.xe e s'
variable {apos:Pos}
section
variable {k:Nat} {dvs:List V} {ds:List d5} {E:XK} {o:Expr}
theorem Ki {pins:Pns} {σ:St} {H:Hp} {s:d9} {Q:VK} {us:List d5} {vs:List V} (F:FnOk X.prog X.w X.K X.mg X.base CX k f fd ps sp) (a:Room k X.A) (d:Binds X.K fd ps ds) (hd:Vals dvs ds) (hx:jr CX X E)
  (I:Inv X pins σ H s) (r:Vals vs us) (h:sp (vs++dvs) H Q E):ez (model X.prog X.w) X.A (call (.ref f) us) (EP X pins σ Q) X.xe s:=by
 have r2:Vals (vs++dvs) (us++ds):=r.append hd;have hl:(us++ds).length=ps.length:=by rw [<-r2.length]; exact F.len _ _ _ _ h
 refine iA (fM (F.run X.A X.stack s H ⟨us,[]⟩ (us++ds) (vs++dvs) Q E a I.env0 (d s us I.kIn hl) r2 h) λr s' hq=>?_);cases r with
 | error e=>exact hx pins σ H s e s' I hq
 | ok l=>
  cases l with
  | ret u=>exact I.after hq
  | next=>exact ba hq
  | brk=>exact ba hq
  | cont=>exact ba hq
theorem YK (F:FnOk X.prog X.w X.K X.mg X.base CX k f fd ps sp) (a:Room k X.A) (hg:Gl X x) (c:X.mg x=d4 (.ref f)) (g:fU X.K (.ref f)=d8) (j:Binds X.K fd ps ds) (hd:Vals dvs ds) (hx:jr CX X E)
  (m:PA X (e::es) t) (b:Dbg x:=by decide) (i:eh (e::es) X.env=(d7,eval e X.env)::eh es X.env:=by rfl) (l:(e9 pos (eh es X.env)).any (·.1)=false:=by rfl) :
  PE X (.Call (.Name x p) (e::es) [] pos) (qa1 sp dvs E t):=by
 refine ⟨?_⟩;intro pins s σ H Q I h;refine fF (wP I hg c ?_ b);refine cu (h₀:=X.base) I.ok.mod.kin g (thn (m pos pins s σ H _ I h) λus s1 ⟨vs,H1,d,r,q⟩=>⟨d.kIn,?_⟩) i l;exact Ki F a j hd hx d r q
theorem WG {pl:Sem Bool} (i:PE X o ta) (c:Cls X.K C) (b:Meth X.K C m f) (F:FnOk X.prog X.w X.K X.mg X.base CX k f fd ps sp) (e:Room k X.A) (g:Binds X.K fd ps ds) (hd:Vals dvs ds) (hx:jr CX X E)
  (t:eval (.Call (.Attribute o m apos) [] [] pos) X.env=(do
   let ov <-eval o X.env
   standAt apos.atName
   let (f,first) <-holding [ov] (getMethod ov m pl)
   callWith pos f first (e9 pos (eh [] X.env)) (fJ pos (fh [] X.env))):=by rfl) :
  PE X (.Call (.Attribute o m apos) [] [] pos) (qa2 C m sp dvs E ta ZY):=by
 refine ⟨?_⟩;intro pins s σ H Q I h;refine PySem.W.methodCall_KW (pl:=pl) (thn (i pins s σ H _ I h) λu s1 ⟨x,H1,d,r,a,dx,fs,ex,j,l,q⟩=>?_) t;subst ex;obtain rfl:u=bi a:=r;refine Jb d j c b l ?_;exact PySem.W.callWith_K0 (first:=[.ref a]) d.kIn b.kp (Ki (us:=[.ref a]) (vs:=[.ref a]) F e g hd hx d (.cons rfl .nil) q)
structure Mk (K:Frag) (C f:Addr):Prop where
 makes:dw K C=d8
 init:aD K (.ref C) "__init__"=d4 (d4 (.ref f))
 fn:cZ K (.ref f)=d8
 kp:fU K (.ref C)=d8
theorem WH {pins:Pns} {σ:St} {H:Hp} {s:d9} {Q:VK} {us:List d5} {vs:List V} (M:Mk X.K C f) (F:FnOk X.prog X.w X.K X.mg X.base CX k f fd ps sp) (c:Room (k+1) X.A) (g:Binds X.K fd ps ds) (hd:Vals dvs ds)
  (hx:jr CX X E) (I:Inv X pins σ H s) (r:Vals vs us)
  (h:∀ x dx,H x=d6->H dx=d6->dx≠x->sp (.ref x::(vs++dvs)) (upd (upd H dx (.own x)) x (.ins C dx [])) (λv H2=>v=.non/\Q (.ref x) H2) E) :
  ez (model X.prog X.w) X.A (call (.ref C) us) (EP X pins σ Q) X.xe s:=by
 have hq:=h (s.heap.objs.size+1) s.heap.objs.size (I.hok.fresh (dX _)) (I.hok.fresh (ao _)) (aE (Nat.lt_succ_self _));have d:=Inv.made (C:=C) I;have r2:Vals (V.ref (s.heap.objs.size+1)::(vs++dvs)) (bi (s.heap.objs.size+1)::(us++ds)):=.cons rfl (r.append hd);have hl:(bi (s.heap.objs.size+1)::us++ds).length=ps.length:=by have e:=r2.length;rw [F.len _ _ _ _ hq] at e;exact e.symm
 refine iA (WF (f:=f) I.kIn M.makes M.init (beq_iff_eq.mp M.fn) (fM (F.run _ X.stack _ _ ⟨bi (s.heap.objs.size+1)::us,[]⟩ (bi (s.heap.objs.size+1)::(us++ds)) _ _ E (c.make C us [])
  (d.env0.make C us []) (g _ (bi (s.heap.objs.size+1)::us) d.kIn hl) r2 hq) λr s' a=>?_))
 cases r with
 | error e=>exact hx pins σ _ _ e s' d a
 | ok l=>
  cases l with
  | ret u=>obtain ⟨v,H',U,b,ev,q⟩:=d.after a;subst ev;exact ⟨b,⟨V.ref (s.heap.objs.size+1),H',U,rfl,q⟩⟩
  | next=>exact ba a
  | brk=>exact ba a
  | cont=>exact ba a
theorem YL (M:Mk X.K C f) (F:FnOk X.prog X.w X.K X.mg X.base CX k f fd ps sp) (a:Room (k+1) X.A) (hg:Gl X x) (c:X.mg x=d4 (.ref C)) (g:Binds X.K fd ps ds) (hd:Vals dvs ds) (hx:jr CX X E)
  (j:PA X (e::es) t) (b:Dbg x:=by decide) (i:eh (e::es) X.env=(d7,eval e X.env)::eh es X.env:=by rfl) (l:(e9 pos (eh es X.env)).any (·.1)=false:=by rfl) :
  PE X (.Call (.Name x p) (e::es) [] pos) (qa3 C sp dvs E t):=by
 refine ⟨?_⟩;intro pins s σ H Q I h;refine fF (wP I hg c ?_ b);refine cu (h₀:=X.base) I.ok.mod.kin M.kp (thn (j pos pins s σ H _ I h) λus s1 ⟨vs,H1,d,r,q⟩=>⟨d.kIn,?_⟩) i l;exact WH M F a g hd hx d r q
end
section
variable {k:Nat} {ks:List Str} {E:XK} {kpos:Pos} {o:Expr} {kws:List fB} {tk:TA} {nm:Option Str}
variable {g:List d5->List d5->List d5} {gV:List V->List V->List V}
end
structure FnScope (N P:List Str) (sc:fN):Prop where
 kind:sc.kind=.function
 co:sc.isCoroutine=d7
 gen:sc.isGenerator=d7
 nd:N.Nodup
 pre:N.take P.length=P
 par:∀ x∈P,sc.names.lookup x=d4 .local\/sc.names.lookup x=d4 .cell
 nofree:∀ y∈sc.names,y.2≠.free
variable {kindOf:Str->Option fC}
theorem xV:∀ {binds:List (Str×d5)} {m:Str->Option d5},(∀ v,(x,v)∉binds)->bindL kindOf binds m x=m x
 | [],_,_=>rfl
 | (n,v)::r,m,h=>by
  unfold bindL;rw [xV λw a=>h w (ac _ a)];split
  ·have:x≠n:=by rintro rfl; exact h v aI
   simp [this]
  ·rfl
theorem xW:∀ {binds:List (Str×d5)} {m:Str->Option d5},(∀ v,(x,v)∉binds)->bindC kindOf binds m x=m x
 | [],_,_=>rfl
 | (n,v)::r,m,h=>by
  unfold bindC;rw [xW λw a=>h w (ac _ a)];split;·rfl
  ·have:x≠n:=by rintro rfl; exact h v aI
   simp [this]
theorem uM {kindOf:Str->Option fC} {x:Str} {v:d5}:∀ {P:List Str} {vs:List d5} {i:Nat} {m:Str->Option d5},P.Nodup->P[i]?=d4 x->vs[i]?=d4 v->kindOf x=d4 .local ->bindL kindOf (P.zip vs) m x=d4 v
 | [],_,_,_,_,h,_,_=>by simp at h
 | _::_,[],_,_,_,_,h,_=>by simp at h
 | p::P,w::vs,0,m,nd,h1,h2,hk=>by simp at h1 h2; subst h1; subst h2;show bindL kindOf ((p,w)::P.zip vs) m p=_;unfold bindL;rw [xV λv c=>(aH.mp nd).1 (cU c).1,Aa hk];simp
 | p::P,w::vs,i+1,m,nd,h1,h2,hk=>by show bindL kindOf ((p,w)::P.zip vs) m x=_;unfold bindL;exact uM (i:=i) (aH.mp nd).2 (by simpa using h1) (by simpa using h2) hk
theorem uN {kindOf:Str->Option fC} {x:Str} {v:d5}:∀ {P:List Str} {vs:List d5} {i:Nat} {m:Str->Option d5},P.Nodup->P[i]?=d4 x->vs[i]?=d4 v->kindOf x≠d4 .local ->bindC kindOf (P.zip vs) m x=d4 v
 | [],_,_,_,_,h,_,_=>by simp at h
 | _::_,[],_,_,_,_,h,_=>by simp at h
 | p::P,w::vs,0,m,nd,h1,h2,hk=>by simp at h1 h2; subst h1; subst h2;show bindC kindOf ((p,w)::P.zip vs) m p=_;unfold bindC;rw [xW λv c=>(aH.mp nd).1 (cU c).1,Ab hk];simp
 | p::P,w::vs,i+1,m,nd,h1,h2,hk=>by show bindC kindOf ((p,w)::P.zip vs) m x=_;unfold bindC;exact uN (i:=i) (aH.mp nd).2 (by simpa using h1) (by simpa using h2) hk
noncomputable def kh (N:List Str) (vs:List V):St:=vs.map d4++aj (N.length - vs.length) d6
def YM (CX:CXT) (P:eH) (w:eI) (K:Frag) (mg:Str->Option d5) (base:Heap) (N:List Str) (qual:Str) (scope:fN) (f:Addr) (cd:d5) (A:eZ) (outer:List Env) (s:d9) (H:Hp) (E:XK):Cx where
 prog:=P
 w:=w
 K:=K
 mg:=mg
 base:=base
 A:=A.deeper (fw qual scope s.heap.objs.size f cd)
 N:=N
 s₀:=s
 H₀:=H
 env:=fw qual scope s.heap.objs.size f cd
 outer:=outer
 stack:=fw qual scope s.heap.objs.size f cd::outer
 ex:=[]
 calm:=d8
 fn:=λ_=>d8
 pn:=[]
 xe:=λe s'=>ez (model P w) (A.deeper (fw qual scope s.heap.objs.size f cd)) (leaving (fw qual scope s.heap.objs.size f cd) e) (λ_ a=>CX outer H s E e a) (λb a=>CX outer H s E b a) s'
theorem uB {sc:fN} {n:Nat} (h:sc.names.lookup x=d4 .cell):∃ c,(iq n sc.names []).lookup x=d4 c:=by have q:=cB sc.names n [] (.inl h);exact Option.isSome_iff_exists.mp q
theorem Kj {CX:CXT} {P:eH} {w:eI} {K:Frag} {mg:Str->Option d5} {base:Heap} {N ps:List Str} {qual:Str} {scope:fN} {f:Addr} {cd:d5} {A:eZ} {outer:List Env} {s s1:d9} {H:Hp} {E:XK} {us:List d5} {vs:List V}
  (S:FnScope N ps scope) (hd:A.handled=d6) (e0:Env0 P w K mg base A outer s H) (hl:vs.length=ps.length) (r:Vals vs us)
  (x:InCallC s s.heap.objs.size (bindL (fw qual scope s.heap.objs.size f cd).kindOf (ps.zip us) λ_=>d6) (iq (s.heap.objs.size+1) scope.names []) (bindC (fw qual scope s.heap.objs.size f cd).kindOf (ps.zip us) λ_=>d6) s1) :
  Inv (YM CX P w K mg base N qual scope f cd A outer s H E) [] (kh N vs) H s1:=by
 have o:ps.length<=N.length:=by have:=congrArg List.length S.pre; rw [cf] at this; lia
 obtain ⟨h1,tk,rfl,l⟩:=x.done;have d:∀ b:Addr,b∉(YM CX P w K mg base N qual scope f cd A outer s H E).ex:=λb z=>absurd (show b∈([]:List Addr) from z) (by simp);refine ⟨⟨e0.mod,S.kind,rfl,rfl,ao _,λy z c h1 h2=>?_,λy D=>?_,λy c _ h=>?_,λ_=>hd,Around.frames_deeper e0.frames,.inr ⟨rfl,rfl⟩,λb z=>absurd z (d b),e0.bs,e0.bsz,λb _ _=>d b,λb z=>absurd z (d b),e0.funs,e0.frf⟩,rfl,e0.bare,Un.kept l,⟨_,x.toInCall.ns,λi y v h1 h2 B=>?_⟩,λy c h=>⟨_,x.cell y c h⟩,e0.hok.fresh (ao _),λy c h=>?_,λp hp=>absurd (show p∈([]:Pns) from hp) (by simp),e0.hok.kept l,?_⟩;·exact name_of_addr x.apart (aO h1) (aO h2)
 ·have D:scope.names.lookup y=d4 .cell\/scope.names.lookup y=d4 .free:=D;rcases D with D | D;·exact uB D
  ·exact absurd rfl (S.nofree _ (aO D))
 ·exact cY (x.above y c (aO h))
 ·have hi:i < vs.length:=by
   unfold kh at h2;by_cases hi:i < vs.length;·exact hi
   ·rw [bn (by simpa using hi)] at h2;rw [bj] at h2;split at h2 <;> cases h2
  have t:vs[i]?=d4 v:=by
   unfold kh at h2;rw [bD (by simpa using hi),aM] at h2;cases e:vs[i]? with
   | none=>rw [e] at h2; cases h2
   | some a=>rw [e] at h2; cases h2; rfl
  obtain ⟨u,j,m⟩:=r.get t;have hp:ps[i]?=d4 y:=by rw [<-S.pre,List.getElem?_take_of_lt (by lia)]; exact h1
  have g:ps.Nodup:=by rw [<-S.pre]; exact S.nd.sublist (List.take_sublist _ _)
  refine ⟨u,m,?_⟩;rcases S.par y (bZ hp) with k | k;·exact .inl ⟨k,uM g hp j k⟩
  ·obtain ⟨c,e⟩:=uB (n:=s.heap.objs.size+1) k;refine .inr ⟨.inl k,c,e,?_⟩;have q:=x.cell y c e;rw [uN g hp j (by show scope.names.lookup y≠_; rw [k]; decide)] at q;exact q
 ·exact e0.hok.fresh (cY (x.above y c (aO h)))
 ·unfold kh;show _=N.length;rw [ai,ay,bT]
  lia
theorem qa4 {CX:CXT} {P:eH} {w:eI} {K:Frag} {mg:Str->Option d5} {base:Heap} {k:Nat} {f:Addr} {name qual:Str} {params:Arguments} {a:List Stmt} {scope:fN} {m kV doc pm cdv ct oc:d5} {an od:Option Addr}
  {osl:Array (Option d5)} {N ps:List Str} {sp:Sp} (z:K.lookup f=d4 ⟨oc,od,.func (bf name qual params a scope m kV doc pm an cdv ct),osl⟩) (j:iB K cdv qual=d8) (S:FnScope N ps scope)
  (len:∀ vs H Q E,sp vs H Q E->vs.length=ps.length)
  (c:∀ (A:eZ) (outer:List Env) (s:d9) (H:Hp) (vs:List V) (Q:VK) (E:XK),Room k (A.deeper (fw qual scope s.heap.objs.size f cdv))->sp vs H Q E ->∃ t,PSs (YM CX P w K mg base N qual scope f cdv A outer s H E) a t/\t { nx:=λ_ H'=>Q .non H',rt:=Q } (kh N vs) H) :
  FnOk P w K mg base CX (k+1) f (bf name qual params a scope m kV doc pm an cdv ct) ps sp:=by
 refine ⟨len,λA outer s H args us vs Q E i e0 G r p=>?_⟩;have hl:=len _ _ _ _ p;have X:K.In s.heap:=e0.mod.kin.keeps λb o e=>(e0.bs b o e).1;have l:s.heap.NoLimit:=e0.mod.nolimit.keeps λb o e=>(e0.bs b o e).1;have h:∀ y∈ps.zip us,scope.names.lookup y.1=d4 .local\/(scope.names.lookup y.1=d4 .cell/\((iq (s.heap.objs.size+1) scope.names []).lookup y.1).isSome=d8):=λ⟨n,v⟩ D=>by
  rcases S.par n (cU D).1 with q | q;·exact .inl q
  ·exact .inr ⟨q,cB _ _ _ (.inl q)⟩
 refine codeAny_call_function i.depth (X _ _ z) rfl S.co S.gen rfl (PySem.W.codeRec_of X j) (G _ _ _ _ ?_);refine wpAny_newFunctionEnv_cells S.kind h λenv C s1 x=>?_;subst C;refine ⟨l.keeps x.toInCall.keep,codeAny_func ?_⟩;obtain ⟨t,B,hq⟩:=c A outer s H vs Q E (i.deeper _) p;have I:Inv (YM CX P w K mg base N qual scope f cdv A outer s H E) [] (kh N vs) H s1:=Kj S i.hd e0 hl r x;refine fI (B [] s1 (kh N vs) H _ I hq) (λL s' d=>?_) λe s' d=>d;have fin:∀ {σ':St} {H':Hp} {v:V} {u:d5},Inv (YM CX P w K mg base N qual scope f cdv A outer s H E) [] σ' H' s'->RelV v u->Q v H'->CE outer P w H s Q u s':=
  λ{σ' H' v u} J g q=>⟨v,H',J.os,J.bare,J.base,J.hok,g,q⟩
 cases L with
 | ret u=>obtain ⟨v,σ',H',J,g,q⟩:=d;exact fin J g q
 | next=>obtain ⟨σ',H',J,q⟩:=d;exact fin (v:=V.non) (u:=c6) J rfl q
 | brk=>obtain ⟨_,_,_,q⟩:=d;exact ba q
 | cont=>obtain ⟨_,_,_,q⟩:=d;exact ba q
section
variable {id T:String} {r:List V->Hp->VK->Prop}
def tCB (r:List V->Hp->VK->Prop) (t:TA):TE:=λσ H Q=>t σ H λvs H1=>r vs H1 Q
theorem vw (d:vG X (.builtin id) r) (hg:Gl X x) (m:X.mg x=d6) (c:eG x=d4 (.builtin id)) (g:PA X (e::es) t) (n:x ≠ "__name__":=by decide) (b:Dbg x:=by decide)
  (i:eh (e::es) X.env=(d7,eval e X.env)::eh es X.env:=by rfl) (l:(e9 pos (eh es X.env)).any (·.1)=false:=by rfl):PE X (.Call (.Name x p) (e::es) [] pos) (tCB r t):=by
 refine ⟨?_⟩;intro pins s σ H Q I h;refine fF (Qg I hg m c ?_ n b);exact PyProof.Rows.callWith_builtin1 (thn (g pos pins s σ H _ I h) λus s1 ⟨vs,H1,a,r1,q⟩=>d pins s1 σ H1 vs us Q a r1 q) i l
theorem wc (d:vG X (.type T) r) (hg:Gl X x) (m:X.mg x=d6) (c:eG x=d4 (.type T)) (g:PA X (e::es) t) (n:x ≠ "__name__":=by decide) (b:Dbg x:=by decide)
  (i:eh (e::es) X.env=(d7,eval e X.env)::eh es X.env:=by rfl) (l:(e9 pos (eh es X.env)).any (·.1)=false:=by rfl):PE X (.Call (.Name x p) (e::es) [] pos) (tCB r t):=by
 refine ⟨?_⟩;intro pins s σ H Q I h;refine fF (Qg I hg m c ?_ n b);exact PyProof.Rows.callWith_type1 (thn (g pos pins s σ H _ I h) λus s1 ⟨vs,H1,a,r1,q⟩=>d pins s1 σ H1 vs us Q a r1 q) i l
end
end L2
namespace HT
open PySem PyProof.Rows
section
open PySem.SeqAt
open PySem.AutoSeq1 (wpAny_loadPart')
open PySem.MeetsSeq PySem.MeetsSeq2 PySem.MeetsSeq3
end
section
variable {prog:eH} {w:eI} {A:eZ} {E:d5->d9->Prop} {s:d9}
theorem cat_tup {t b:Addr} {vs ws:List d5} {Q:d5->d9->Prop} (m:IsTup s.heap t vs.toArray) (k:IsTup s.heap b ws.toArray) (v:vs≠[])
  (h1:ws=[]->Q (.ref t) s) (h2:ws≠[]->Q (.ref s.heap.objs.size) { s with heap:=s.heap.push { cls:=.type "tuple",data:=.seq (vs++ws).toArray } })
  (z:vs.length+ws.length<=sizeLine):ez (model prog w) A (fq .Add (.ref t) (.ref b)) Q E s:=by
 obtain ⟨⟨cls,dd,data,sl⟩,o,i,n,hd⟩:=id m;obtain ⟨⟨j,d,g,a⟩,h,c,n2,hd2⟩:=id k;simp only at i hd c hd2;subst i hd c hd2;have e:vs.toArray++ws.toArray=(vs++ws).toArray:=by simp
 by_cases f:ws=[]
 ·exact ib ⟨_,o,rfl⟩ ⟨_,h,rfl⟩ noFill_tuple_add seq_tuple_add cC cx (ck _ _)
   (tuple_addW1 t b vs.toArray ws.toArray n n2 dd d sl a (by simpa using v) (by simp [f])) ⟨o,h,h1 f⟩
 ·refine ib ⟨_,o,rfl⟩ ⟨_,h,rfl⟩ noFill_tuple_add seq_tuple_add cC cx (ck _ _)
   (tuple_addW2 t b vs.toArray ws.toArray n n2 dd d sl a (by simpa using v) (by simpa using f) (by rw [ah,ah]; exact z)) ⟨o,h,?_⟩
  rw [e];exact h2 f
theorem slicePart_ {v:d5} {o:Option Int} {Q:Option Int->d9->Prop} (p:g0 v o) (h:Q o s):ez (model prog w) A (Builtin.Slice.slicePartIndex v) Q E s:=by
 cases p with
 | none=>exact slicePart_none h
 | int i t=>exact slicePart_int h
end
end HT
namespace L2
open PySem PySem.Spec PyProof.Rows
abbrev TO:=St->Hp->(Option Int->Hp->Prop)->Prop
def PO (X:Cx) (e:Option Expr) (t:TO):Prop:=
 ∀ (pins:Pns) (s:d9) (σ:St) (H:Hp) (Q:Option Int->Hp->Prop),Inv X pins σ H s->t σ H Q ->ez (model X.prog X.w) X.A (evalPart e X.env) (λu s'=>∃ o H',Inv X pins σ H' s'/\g0 u o/\Q o H') X.xe s
def YN:TO:=λ_ H Q=>Q d6 H
def qa5 (t:TE):TO:=λσ H Q=>t σ H λx H1=>∃ i,x=.int i/\Q (d4 i) H1
variable {X:Cx} {e:Expr} {pos:Pos} {xs:List V} {us:List d5}
section
variable {te:TE} {lo hi:Option Expr} {tl th:TO} {p2:Pos}
theorem YO:PO X d6 YN:=by intro pins s σ H Q I h;rw [evalPart_none];exact et ⟨d6,H,I,.none,h⟩
theorem YQ (h:PE X e te):PO X (d4 e) (qa5 te):=by intro pins s σ H Q I w;rw [evalPart_some];refine thn (h pins s σ H _ I w) λu s1 ⟨x,H1,d,r1,a⟩=>?_;obtain ⟨i,rfl,q⟩:=a;obtain ⟨t,rfl⟩:=r1;exact ⟨d4 i,H1,d,.int i t,q⟩
def qa6 (K:Frag):R2:=λx y H Q=>∃ a b xs ys,x=.ref a/\y=.ref b/\SqT K H a xs/\SqT K H b ys/\xs≠[]/\xs.length+ys.length<=sizeLine /\
 (ys=[]->Q (.ref a) H)/\(ys≠[]->∀ p,H p=d6->Q (.ref p) (upd H p (.tup (xs++ys))))
theorem Vals.nil_iff (r:Vals xs us):us=[]↔xs=[]:=by
 cases r with
 | nil=>simp
 | cons _ _=>simp
theorem YR:OpR X (fq .Add) (qa6 X.K):=by intro pins s σ H x y v u Q I d c h;obtain ⟨a,b,xs,ys,rfl,rfl,j,g,hx,C,f,e⟩:=h;cases d;cases c;obtain ⟨its,r1,p1,_⟩:=I.tuple j;obtain ⟨i,r2,p2,_⟩:=I.tuple g;refine HT.cat_tup p1 p2 (λz=>hx (r1.nil_iff.mp z)) (λz=>⟨.ref a,H,I,rfl,f (r2.nil_iff.mp z)⟩) (λz=>?_) (by rw [<-r1.length,<-r2.length]; exact C);refine ⟨.ref s.heap.objs.size,_,I.laid (t':=s.toks) (o:=.tup (xs++ys)) (λb k q=>ae _ q) (ao _) ?_,rfl,e (λw=>z (r2.nil_iff.mpr w)) _ (I.hok.fresh (ao _))⟩;exact ⟨⟨by rw [ai]; exact C,_,aq _ rfl,rfl⟩,_,r1.append r2,IsTup.new _ _⟩
end
noncomputable def ixN (n:Nat) (i:Int):Option Nat:=if 0<=i then (if i < n then d4 i.toNat else d6) else if -(n:Int)<=i then d4 (i+n).toNat else d6
variable {α:Type}
noncomputable def atI (xs:List α) (i:Int):Option α:=(ixN xs.length i).bind λj=>xs[j]?
variable {n:Nat} {i:Int}
theorem YS {j:Nat} (h:ixN n i=d4 j):seqIndex? i n=d4 j/\j < n/\-(n:Int)<=i/\i < n:=by
 unfold ixN at h;by_cases a:0<=i
 ·rw [Aa a] at h;by_cases h1:i < n;·rw [Aa h1] at h;have e:i.toNat=j:=ax.inj h;exact ⟨by rw [seqIndex_of a h1,e],by lia,by lia,h1⟩
  ·rw [Ab h1] at h; cases h
 ·rw [Ab a] at h;by_cases h1:-(n:Int)<=i;·rw [Aa h1] at h;have e:(i+n).toNat=j:=ax.inj h;exact ⟨by rw [seqIndex_neg (by lia) h1,e],by lia,h1,by lia⟩
  ·rw [Ab h1] at h; cases h
theorem gh {xs:List α} {v:α} (h:atI xs i=d4 v):∃ j,seqIndex? i xs.length=d4 j/\xs[j]?=d4 v/\j < xs.length/\-(xs.length:Int)<=i/\i < xs.length:=by
 unfold atI at h;cases e:ixN xs.length i with
 | none=>rw [e] at h; cases h
 | some j=>rw [e] at h;obtain ⟨h1,h2,b,a⟩:=YS e;exact ⟨j,h1,h,h2,b,a⟩
def gi (b:Expr):Prop:=∀ o i,subscripted b d7 o i=operate [o,i] (iD o i)
def IxR (X:Cx) (r:R2):Prop:=
 ∀ (value e:Expr) (pins:Pns) (s:d9) (σ:St) (H:Hp) (x y:V) (v u:d5) (Q:VK),Inv X pins σ H s->RelV x v->RelV y u->r x y H Q ->subscripted e d7 v u=operate [v,u] (iD v u)->ez (model X.prog X.w) X.A (subscriptTail value e v u) (EP X pins σ Q) X.xe s
def MtR (X:Cx) (id:String) (r:V->List V->Hp->VK->Prop):Prop:=
 ∀ (pins:Pns) (s:d9) (σ:St) (H:Hp) (x:V) (xs:List V) (v:d5) (us:List d5) (Q:VK),Inv X pins σ H s->RelV x v->Vals xs us->r x xs H Q ->ez (model X.prog X.w) X.A (call (.builtin id) (v::us)) (EP X pins σ Q) X.xe s
variable {pins:Pns} {σ:St} {H:Hp} {s:d9} {T:String} {x:V}
section
variable {a b:Expr} {ta tb:TE}
theorem IxR.or {r r':R2} (h:IxR X r) (h':IxR X r'):IxR X (λx y H Q=>r x y H Q\/r' x y H Q):=by
 intro value e pins s σ H x y v u Q I d c q a;rcases q with q | q;·exact h value e pins s σ H x y v u Q I d c q a
 ·exact h' value e pins s σ H x y v u Q I d c q a
theorem qa7 {r:R2} (f:IxR X r) (i:PE X a ta) (g:PE X b tb) (e:gi b):PE X (.Subscript a b pos) (tOp r ta tb):=by refine ⟨?_⟩;intro pins s σ H Q I h;exact Subscript_ (qaT i g I h λv u s2 x y H2 j d c q=>f a b pins s2 σ H2 x y v u Q j d c q (e _ _))
def qbQ (K:Frag):R2:=λx y H Q=>∃ p xs i v,x=.ref p/\y=.int i/\SqL K H p xs/\atI xs i=d4 v/\Q v H
def qbR (K:Frag):R2:=λx y H Q=>∃ p xs i v,x=.ref p/\y=.int i/\SqT K H p xs/\atI xs i=d4 v/\Q v H
def qbS:R2:=λx y H Q=>∃ z i c,x=.str z/\y=.int i/\z.length<=sizeLine/\atI z.cps.toList i=d4 c/\Q (.str ⟨#[c]⟩) H
theorem YT:IxR X (qbQ X.K):=by
 intro value e pins s σ H x y v u Q I g f h c;obtain ⟨p,xs,i,z,rfl,rfl,hq,k,q⟩:=h;cases g;obtain ⟨t,rfl⟩:=f;obtain ⟨its,r,pl,C⟩:=I.list hq;obtain ⟨j,h1,h2,o,m,l⟩:=gh k;obtain ⟨w,d,a⟩:=r.get h2;have hl:=r.length;have n:=xU;have fin:EP X pins σ Q w s:=⟨z,H,I,a,q⟩
 by_cases b:0<=i
 ·have G:i.toNat=j:=by rw [seqIndex_of b l] at h1;exact ax.inj h1
  exact item_listR pl.isList b (by lia) (by rw [G]; simpa using d) fin c
 ·have G:(i+(its.toArray.size:Int)).toNat=j:=by rw [seqIndex_neg (by lia) m] at h1;rw [ah,<-hl];exact ax.inj h1
  exact subscriptTail_builtinR (x:=w) pl.isList.typeIs slot_list_getitem.lookup
   (wpAny_getItem_list_neg (Q:=λr s'=>r=w/\EP X pins σ Q r s') pl.isList (by lia) (by rw [ah] <;> lia) (by lia) (by rw [G]; simpa using d) ⟨rfl,fin⟩) c
theorem Gb:IxR X (qbR X.K):=by
 intro value e pins s σ H x y v u Q I d c h b;obtain ⟨p,xs,i,z,rfl,rfl,hq,f,q⟩:=h;cases d;obtain ⟨t,rfl⟩:=c;obtain ⟨its,r,pl,C⟩:=I.tuple hq;obtain ⟨j,h1,h2,m,k,l⟩:=gh f;obtain ⟨w,g,a⟩:=r.get h2;have hl:=r.length;have n:=xU;have fin:EP X pins σ Q w s:=⟨z,H,I,a,q⟩
 exact subscriptTail_builtinR (x:=w) pl.typeIs slot_tuple_getitem.lookup
  (getItem_tuple (j:=j) (Q:=λr s'=>r=w/\EP X pins σ Q r s') pl (by lia) (by lia) (by rw [ah,<-hl]; exact h1) (by simpa using g) ⟨rfl,fin⟩) b
theorem Gc:IxR X qbS:=by
 intro value e pins s σ H x y v u Q I d r h a;obtain ⟨z,i,c,rfl,rfl,C,b,q⟩:=h;obtain ⟨t,rfl⟩:=d;obtain ⟨t',rfl⟩:=r;obtain ⟨j,h1,h2,k,f,l⟩:=gh b;have hl:z.cps.toList.length=z.length:=by simp [du]
 rw [hl] at h1 f l;have n:=xU;exact tail_any (typeIs_str s z t) slot_str_getitem.lookup (getItem_str (c:=c) (by have e1:decide (i < -(2 ^ 63:Int))=false:=Ac (by lia);have g:decide (i ≥ 2 ^ 63)=false:=Ac (by lia);rw [e1,g,Bool.or_false]) (by rw [h1]; simpa using h2) ⟨.str ⟨#[c]⟩,H,I.tok _,⟨_,rfl⟩,q⟩) a
def rIx (K:Frag):R2:=λx y H Q=>qbQ K x y H Q\/qbR K x y H Q\/qbS x y H Q
theorem Gd:IxR X (rIx X.K):=YT.or (Gb.or Gc)
theorem ue:vG X (.type "list") (λxs H Q=>∃ p ys,xs=[.ref p]/\(SqL X.K H p ys\/SqT X.K H p ys)/\∀ l,H l=d6->Q (.ref l) (upd H l (.lst ys))):=by
 intro pins s σ H xs us Q I r h;obtain ⟨p,ys,rfl,hq,q⟩:=h;obtain ⟨u,rfl,x⟩:=yZ r;cases x;have fin:∀ (its:List d5),Vals ys its->ys.length<=sizeLine->∀ (h':Heap) (U:Nat),(∀ b o',s.heap.get? b=d4 o'->h'.get? b=d4 o') ->h'.get? s.heap.objs.size=d4 { cls:=.type "list",dict:=d6,data:=.seq its.toArray U,slots:=#[] }->EP X pins σ Q (.ref s.heap.objs.size) { s with heap:=h' }:=λits r' C h' U kp e=>
  ⟨.ref s.heap.objs.size,_,I.laid (t':=s.toks) kp (ao _) (show ObjOk X.prog X.w _ h' _ (.lst ys) from ⟨C,its,U,r',e⟩),rfl,q _ (I.hok.fresh (ao _))⟩
 rcases hq with hq | hq;·obtain ⟨its,r',pl,C⟩:=I.list hq;have a:=r'.length;obtain ⟨o,c,d,n,hd⟩:=pl.isList;exact call_list_seq p (.inl rfl) c d hd (λh' U kp e=>fin its r' C h' U kp e) (by simp only [ah] <;> lia)
 ·obtain ⟨its,r',pl,C⟩:=I.tuple hq;have a:=r'.length;obtain ⟨o,c,d,n,hd⟩:=pl;exact call_list_seq p (.inr rfl) c d hd (λh' U kp e=>fin its r' C h' U kp e) (by simp only [ah] <;> lia)
theorem we:vG X (.type "tuple") (λxs H Q=>∃ p ys,xs=[.ref p]/\((SqL X.K H p ys/\∀ l,H l=d6->Q (.ref l) (upd H l (.tup ys)))\/(SqT X.K H p ys/\Q (.ref p) H))):=by
 intro pins s σ H xs us Q I r h;obtain ⟨p,ys,rfl,h⟩:=h;obtain ⟨u,rfl,x⟩:=yZ r;cases x;rcases h with ⟨hq,q⟩ | ⟨hq,q⟩
 ·obtain ⟨its,r',pl,C⟩:=I.list hq;have n:=r'.length;refine call_tuple_list pl.isList (λh' kp=>?_) (by simp only [ah] <;> lia);have d:Inv X pins σ H { s with heap:=h' }:=I.kept (t':=s.toks) kp;have a:Inv X pins σ (upd H h'.objs.size (.tup ys)) { s with heap:=h'.push { cls:=.type "tuple",data:=.seq its.toArray } }:=
   d.laid (t':=s.toks) (λb o e=>ae _ e) (ao _) (show ObjOk X.prog X.w _ _ _ (.tup ys) from ⟨⟨C,_,aq _ rfl,rfl⟩,its,r',IsTup.new _ _⟩)
  exact ⟨.ref h'.objs.size,_,a,rfl,q _ (d.hok.fresh (ao _))⟩
 ·obtain ⟨its,r',pl,C⟩:=I.tuple hq;exact call_tuple_same pl ⟨.ref p,H,I,rfl,q⟩
def tyV (K:Frag) (T:String) (x:V) (H:Hp):Prop:=match x with
 | .str _=>T = "str"
 | .int _=>T = "int"
 | .ref p=>(T = "list"/\∃ xs,SqL K H p xs)\/(T = "tuple"/\∃ o,K.lookup p=d4 o/\o.cls=.type "tuple"/\o.dict=d6) \/
   (T = "dict"/\((∃ kvs,H p=d4 (.dK kvs))\/∃ kvs,H p=d4 (.dT kvs)))\/(T = "set"/\∃ S n,H p=d4 (.set S n))
 | _=>False
theorem Ge {v:d5} (I:Inv X pins σ H s) (r:RelV x v) (ty:tyV X.K T x H):s.TypeIs v T/\∀ a,v=.ref a->∃ b,s.heap.get? a=d4 b/\b.dict=none:=by
 cases x with
 | str z=>obtain ⟨t,rfl⟩:=r;cases (show T = "str" from ty);exact ⟨typeIs_str s z t,λ_ e=>nomatch e⟩
 | int i=>obtain ⟨t,rfl⟩:=r;cases (show T = "int" from ty);exact ⟨ic s i t,λ_ e=>nomatch e⟩
 | ref p=>
  cases r;rcases ty with ⟨rfl,xs,hq⟩ | ⟨rfl,o,k,d,hd⟩ | ⟨rfl,k⟩ | ⟨rfl,S,n,k⟩
  ·obtain ⟨its,_,pl,_⟩:=I.list hq;refine ⟨pl.isList.typeIs,λa e=>?_⟩;cases e;obtain ⟨o,n,e,c,hd,_⟩:=pl;exact ⟨o,e,hd⟩
  ·refine ⟨⟨o,I.kIn p o k,d⟩,λa e=>?_⟩;cases e;exact ⟨o,I.kIn _ o k,hd⟩
  ·have z:∃ o,s.heap.get? p=d4 o/\o.ExactDict:=by
    rcases k with ⟨kvs,k⟩ | ⟨kvs,k⟩
    ·obtain ⟨_,_,_,_,o,_,_,e,ex,_⟩:=I.hok p _ k;exact ⟨o,e,ex⟩
    ·obtain ⟨_,_,_,_,o,_,_,e,ex,_⟩:=I.hok p _ k;exact ⟨o,e,ex⟩
   obtain ⟨o,e,ex⟩:=z;refine ⟨⟨o,e,ex.1⟩,λa j=>?_⟩;cases j;exact ⟨o,e,ex.2.1⟩
  ·obtain ⟨o,_,_,_,e,ex,_⟩:=I.hok p _ k;refine ⟨⟨o,e,ex.1⟩,λa j=>?_⟩;cases j;exact ⟨o,e,ex.2.1⟩
 | _=>exact ba ty
def tBM (K:Frag) (T:String) (r:V->List V->Hp->VK->Prop) (to:TE) (t:TA):TE:=λσ H Q=>to σ H λx H1=>tyV K T x H1/\t σ H1 λxs H2=>r x xs H2 Q
variable {o:Expr} {es:List Expr} {to:TE} {t:TA} {name:Str} {apos cpos:Pos} {id:String} {r:V->List V->Hp->VK->Prop}
theorem WI (p:PlainAttrs T) (slot:Slot T name id) (y:ig (.builtin id)=pure (.type "method_descriptor")) (m:MtR X id r) (g:PE X o to) (i:PA X (e::es) t)
  (b:fg o name X.env (eval o X.env)=eval o X.env:=by rfl)
  (w:((e9 cpos (eh (e::es) X.env)).all (λx=>!x.1)&&(fJ cpos (fh [] X.env)).all (λx=>x.1.isSome)
   && decide ((e::es).length+([]:List fB).length+(if ([]:List fB).isEmpty then 0 else 1) < 30))=true:=by rfl)
  (a:(apos.endLine == cpos.line)=true:=by rfl) (f:eh (e::es) X.env=(d7,eval e X.env)::eh es X.env:=by rfl) (n:(e9 cpos (eh es X.env)).any (·.1)=false:=by rfl) :
  PE X (.Call (.Attribute o name apos) (e::es) [] cpos) (tBM X.K T r to t):=by
 refine ⟨?_⟩;intro pins s σ H Q I h;refine wpAny_Call_method_late b w a rfl (thn (g pins s σ H _ I h) λv s1 ⟨x,H1,d,r1,ty,c⟩=>?_);obtain ⟨h1,h2⟩:=Ge d r1 ty;refine ⟨T,id,p,slot,y,h1,h2,?_⟩;have hA:=i cpos pins s1 σ H1 _ d c;rw [f] at hA ⊢;refine Calls.callWith_builtin (by show (d7||(e9 cpos (eh es X.env)).any (·.1))=d7; rw [n] <;> rfl) (cP ?_);exact thn hA λus s2 ⟨vs,H2,j,r2,q⟩=>m pins s2 σ H2 x vs v us Q j r1 r2 q
end
def MtM (X:Cx) (id:String) (r:V->List V->Hp->VK->Prop):Prop:=
 ∀ (pins:Pns) (s:d9) (σ:St) (H:Hp) (x:V) (xs:List V) (v:d5) (us:List d5) (Q:VK),Inv X pins σ H s->RelV x v->Vals xs us->r x xs H Q ->ez (model X.prog X.w) X.A (call (.builtin id) (v::us)) (EP X pins σ Q) X.xe s
theorem Vals.one (h:Vals [x] us):∃ u,us=[u]/\RelV x u:=by
 cases h with
 | cons r t=>cases t;exact ⟨_,rfl,r⟩
section
variable {l b:Addr} {ys zs:List V}
theorem Inv.lset {its its':List d5} {n:Nat} {f:Array d5->Array d5} {t':Nat} (I:Inv X pins σ H s) (b:H l=d4 (.lst xs))
  (e:s.heap.get? l=d4 { cls:=.type "list",data:=.seq its.toArray n }) (a:f its.toArray=its'.toArray) (c:Vals ys its') (C:ys.length<=sizeLine) :
  Inv X pins σ (upd H l (.lst ys)) { s with heap:=s.heap.update l (Obj.mapSeq f),toks:=t' }:=by
 have q:=PySem.IsL.update e f;rw [a] at q;refine I.write (x:=l) (e:=l) (by rw [b]; exact trivial) (.inl rfl) (λg u d h=>(Heap.get?_update_other s.heap (Obj.mapSeq f) (be d)).trans h) ⟨_,q⟩ ?_;exact ⟨C,its',_,c,q⟩
theorem Inv.lnew {its:List d5} {t':Nat} (I:Inv X pins σ H s) (c:Vals ys its) (C:ys.length<=sizeLine):Inv X pins σ (upd H s.heap.objs.size (.lst ys)) { s with heap:=s.heap.push { cls:=.type "list",data:=.seq its.toArray },toks:=t' }:=
 I.laid (λ_ _ q=>ae _ q) (ao _) ⟨C,its,0,c,aq _ rfl⟩
theorem Inv.fresh (I:Inv X pins σ H s):H s.heap.objs.size=none:=I.hok.fresh (ao _)
theorem Inv.lstM (I:Inv X pins σ H s) (b:H l=d4 (.lst xs)):xs.length<=sizeLine/\∃ (its:List d5) (n:Nat),Vals xs its/\xs.length=its.length/\s.heap.get? l=d4 { cls:=.type "list",data:=.seq its.toArray n }:=by obtain ⟨z,its,n,r,e⟩:=I.hok l _ b;exact ⟨z,its,n,r,r.length,e⟩
theorem WJ (h:n<=sizeLine):bH n=false:=by unfold bH;exact Ac (by lia)
end
section
def gj:V->List V->Hp->VK->Prop:=λx vs H Q=>∃ l xs y,x=.ref l/\vs=[y]/\H l=d4 (.lst xs)/\xs.length < sizeLine/\Q .non (upd H l (.lst (xs++[y])))
theorem xX:MtM X "list.append" gj:=by
 intro pins s σ H x vs v us Q I d a h;obtain ⟨l,xs,y,rfl,rfl,b,C,q⟩:=h;cases d;obtain ⟨u,rfl,B⟩:=a.one;obtain ⟨z,its,n,r,hl,e⟩:=I.lstM b;refine fK F.slot_list_append ⟨_,e,rfl⟩ F.entry_list_append (F.args_list_append_2 _ _) (PySem.list_append l its.toArray n u (by rw [ah]; lia)) ⟨e,?_⟩;refine ⟨.non,_,I.lset (its':=its++[u]) b e (by simp) (r.append (.cons B .nil)) ?_,rfl,q⟩;rw [ai,List.length_singleton]
 lia
def YU:V->List V->Hp->VK->Prop:=λx vs H Q=>∃ l b xs zs,x=.ref l/\vs=[.ref b]/\H l=d4 (.lst xs)/\H b=d4 (.lst zs)/\xs.length+zs.length<=sizeLine/\Q .non (upd H l (.lst (xs++zs)))
theorem Kk:MtM X "list.extend" YU:=by
 intro pins s σ H x vs v us Q I d f h;obtain ⟨l,b,xs,zs,rfl,rfl,c,k,C,q⟩:=h;cases d;obtain ⟨u,rfl,B⟩:=f.one;cases B;obtain ⟨z,its,n,r,hl,e⟩:=I.lstM c;obtain ⟨M,i,n2,r2,j,m⟩:=I.lstM k;have a:its.toArray.size+i.toArray.size<=sizeLine:=by rw [ah,ah]; lia
 have g:¬(!its.toArray.isEmpty&&bH (its.toArray.size+i.toArray.size))=true:=by rw [WJ a,Bool.and_false];exact bq
 refine fK F.slot_list_extend ⟨_,e,rfl⟩ F.entry_list_extend (F.args_list_extend_2 _ _)
  (AutoSeq1.list_extend_list_list_0 l its.toArray n b i.toArray n2 g (by rw [ah]; lia) (by lia)) ⟨e,m,?_⟩
 refine ⟨.non,_,I.lset (its':=its++i) c e (by simp) (r.append r2) ?_,rfl,q⟩;rw [ai]
 lia
end
end L2
namespace Att
open PySem PySem.W PySem.Calls PyProof.Rows
theorem uO {P:fZ} {h:Heap}:∀ (ns:List Int) (vs:List d5),WellAll P h vs (ns.map WData.int)->IntsAre vs ns:=by
 intro ns
 induction ns with
 | nil=>intro vs w;rw [bt] at w;cases w;exact .nil
 | cons n ns l=>
  intro vs w;rw [aJ] at w;cases w with
  | cons a b=>cases a;exact .cons _ _ (l _ b)
theorem Kl {l:OpenLaw} {n:Nat} (p:l.most=d4 n) {P:fZ} {h:Heap} {args:List WData} {v:List d5}
  (e:l.row.toRowW.claim.pre args=d8) (i:WellAll P h v args) :
  ∃ a vs ns,v=[bi a]/\args=[WData.list (ns.map WData.int)]/\h.get? a=d4 { cls:=.type "list",data:=.seq vs.toArray }/\IntsAre vs ns/\ns.length<=n:=by
 have j:WShape.hasAll [] args [.list .int]=true:=(pre_splitW e).1;have k:l.pre.holds [] { args:=args }=true:=(pre_splitW e).2;obtain ⟨d,r,rfl,h1,h2⟩:=hasAllW_cons j;obtain rfl:=hasAllW_nil h2;obtain ⟨xs,rfl,t⟩:=hasW_list h1;obtain ⟨ns,rfl⟩:=items_int t;have b:ns.length<=n:=by
  unfold OpenLaw.pre at k;have g:(WTm.not (.lt (.lit (.int (n:Int))) (.len (.arg 0)))).holds [] { args:=[.list (ns.map .int)] }=true:=by have g:=(holds_andW k).1;rw [p] at g;exact g
  have f:=condW_of g (w_not (w_lt w_lit (w_len_list (w_arg rfl))));rw [ay] at f;refine Nat.le_of_not_lt λq=>?_;have o:(n:Int) < ((ns.length:Nat):Int):=by omega
  first
   | (rw [decide_eq_true o] at f; exact absurd f (by decide))
   | (simp at f; omega)
 cases i with
 | cons m w=>
  cases w;cases m with
  | list s c=>exact ⟨_,_,ns,rfl,rfl,s,uO ns _ c,b⟩
theorem Km (l:OpenLaw) (args:List WData):l.row.toRowW.claim.post args (.bool d8) args=true:=
 postW_of (r:=l.row.toRowW) (X:=(d8 == d8))
  (show WShape.has [] (.bool d8) .bool=d8 by first | rfl | decide | simp [WShape.has,WShape.arms,WShape.armsAll])
  (show (WTm.eq .res (.lit (.bool d8))).value [] { args:=args,res:=d4 (.bool d8),after:=args }=d4 (.bool (d8 == d8)) from w_eq_bool (w_res rfl) w_lit) rfl
theorem attach_call {l:OpenLaw} {n:Nat} {q:eH} {loose:List Str} {XP:(Str->Option d5)->Heap->Prop} {YP:eI->Heap->Prop} {d:DefRec}
  (p:l.most=d4 n) (hdf:d.params.defaults=[])
  (call:∀ (w:eI) (s₀ s:d9) (mg mb:Str->Option d5) (fa:Addr) (o:Obj) (pm cd doc:d5) (a:Addr) (vs:List d5) (ns:List Int),Ground q loose [] XP w s₀ mg mb s.heap->YP w s.heap ->s.heap.get? fa=d4 o->o.data=.func (docDef d.name d.params d.body d.scope pm cd doc)->s.heap.CodeRec cd d.name->mg d.name=d4 (.ref fa) ->s.heap.get? a=d4 { cls:=.type "list",data:=.seq vs.toArray }->IntsAre vs ns->ns.length<=n->s.gens=#[] ->fE (model l.prog w) ir (.call (.ref fa) ⟨[.ref a],[]⟩) (λr s'=>r=.ok (.ret (.bool d8))/\OldK s.heap s'.heap/\s'.os=s.os/\fX s'.gens) s) :
  WalkO q loose XP YP l.row.toRowW d [] (λf vs=>dY f vs):=by
 intro w s₀ s mg mb G Y fa o pm cd doc V kV m hd c D g hg args v as e y k i u;obtain rfl:V=.none:=Dflts.none D hdf;obtain rfl:kV=.none:=Dflts.noKw D;obtain ⟨a,vs,ns,rfl,rfl,j,h,b⟩:=Kl p e i;refine enter_call (fM (call w s₀ s mg mb fa o pm cd doc a vs ns G Y m (fd_plain hd) c g j h b hg) λr s' hq=>?_);obtain ⟨rfl,h2,z,x⟩:=hq;exact ⟨.inl ⟨.bool d8,.bool d8,[],rfl,λ_=>rfl,.bool d8,Km l _,λ_=>⟨List.Pairwise.nil,λ_ t=>(nomatch t)⟩⟩,h2,z,x⟩
end Att
namespace L2
open PySem PySem.Spec PyProof.Rows
theorem xY:∀ {vs:List d5} {ns:List Int},IntsAre vs ns->Vals (ns.map V.int) vs
 | _,_,.nil=>.nil
 | _,_,.cons n t h=>.cons ⟨t,rfl⟩ (xY h)
def qa8 (H:Hp):Prop:=∀ b,H b=d6\/∃ o xs,H b=d4 (.frz o (.lst xs))
theorem WK {P:eH} {w:eI} {K:Frag} {mg mb:Str->Option d5} {CX:CXT} {k:Nat} {fa a:Addr} {fd:fA} {x:Str} {sp:Sp} {c:d9} {vs:List d5} {ns:List Int}
  (Q:K.In c.heap) (A:c.heap.Ns ei mg) (g:c.heap.Ns hZ mb) (L:∀ x:Str,x ≠ "__name__"->mb x=eG x) (B:c.heap.NoLimit) (hg:c.gens=#[])
  (E:c.heap.get? a=d4 { cls:=.type "list",data:=.seq vs.toArray }) (hi:IntsAre vs ns) (hl:ns.length<=sizeLine) (T:Room k ir)
  (F:∀ base:Heap,K.In base->base.Ns ei mg->FnOk P w K mg base CX k fa fd [x] sp) (l:∀ (s:d9) (u:d5),ip s fd ⟨[u],[]⟩ [(x,u)])
  (I:∀ H:Hp,qa8 H->SqL K H a (ns.map V.int)->sp [.ref a] H (λv _=>v=.bl d8) λ_ _ _=>False)
  (X:∀ H e s',CX [] H c (λ_ _ _=>False) e s'->False) :
  fE (model P w) ir (.call (.ref fa) ⟨[.ref a],[]⟩) (λr s'=>r=.ok (.ret (.bool d8))/\OldK c.heap s'.heap/\s'.os=c.os/\fX s'.gens) c:=by
 have N:=xY hi;have t:=hi.length;have j:∀ H:Hp,qa8 H->SqL K H a (ns.map V.int)->HOk P w H c.heap->(∀ b,H b≠d6->b=a)->(H a≠d6->K.lookup a=d6) ->fE (model P w) ir (.call (.ref fa) ⟨[.ref a],[]⟩) (λr s'=>r=.ok (.ret (.bool d8))/\OldK c.heap s'.heap/\s'.os=c.os/\fX s'.gens) c:=by
  intro H O U hok hA Y;have f:∀ {b:Addr} {o:Obj},c.heap.get? b=d4 o->H b=d6->(Wu c.heap H).get? b=d4 o:=λe n=>Wv e n;have G:∀ {b:Addr} {o:Obj} {es:Array im} {D:Nat},c.heap.get? b=d4 o->o.data=.dict es D->H b=none:=λ{b o es D} e d=>by
   cases q:H b with
   | none=>rfl
   | some u=>have M:b=a:=hA b (by rw [q]; simp);subst M;rw [E] at e; cases e;have d':Data.seq vs.toArray _=Data.dict es D:=d;cases d'
  have i:∀ {b:Addr} {m:Str->Option d5},c.heap.Ns b m->(Wu c.heap H).Ns b m:=λ{b m} ⟨o,es,D,e,d,r⟩=>⟨o,es,D,f e (G e d),d,r⟩
  have C:K.In (Wu c.heap H):=λb o e=>f (Q b o e) (by
   cases q:H b with
   | none=>rfl
   | some u=>have M:b=a:=hA b (by rw [q]; simp);subst M;rw [Y (by rw [q]; simp)] at e; cases e)
  have W:Mod K mg (Wu c.heap H):=⟨C,i A,⟨mb,i g,L⟩,let ⟨mc,h1,h2⟩:=B; ⟨mc,i h1,h2⟩⟩
  have e0:Env0 P w K mg (Wu c.heap H) ir [] c H:=⟨rfl,W,λb o e=>Yz e,dP (JR _ _),trivial,λb g=>absurd (show b∈([]:List Addr) from g) (by simp),hok,.of_eq hg⟩
  refine fM ((F _ C (i A)).run ir [] c H ⟨[.ref a],[]⟩ [.ref a] [.ref a] _ _ T e0 (l c (.ref a)) (.cons rfl .nil) (I H O U)) λr s' h=>?_;cases r with
  | error e=>exact (X H e s' h).elim
  | ok Z=>
   cases Z with
   | next=>exact ba h
   | brk=>exact ba h
   | cont=>exact ba h
   | ret u=>
    obtain ⟨v,H',os,bare,un,y,r',q⟩:=h;have S:v=.bl true:=q;subst S;obtain rfl:u=aG true:=r';refine ⟨rfl,OldK.of_keep λb o e=>?_,os,bare⟩;cases q:H b with
    | none=>exact un.keep b o e q (by intro z; exact absurd (show b∈([]:List Addr) from z) (by simp)) (by simp)
    | some u=>
     rcases O b with z | ⟨ob,xs,z⟩
     ·rw [q] at z; cases z
     ·have R:=un.frzs b ob _ z;obtain ⟨e1,_⟩:=hok b _ z;obtain ⟨e2,_⟩:=y b _ R;rw [e] at e1; cases e1;exact e2
 cases J:K.lookup a with
 | some o=>have e:=Q a o J;rw [E] at e;cases e;refine j (λ_=>d6) (λ_=>.inl rfl) (.inr ⟨_,vs.toArray,_,J,rfl,rfl,rfl,by rw [ah,t]; exact hl,by simpa using N⟩) (λb u z=>by have p:(d6:Option HO)=d4 u:=z; cases p) (λb z=>absurd rfl z) λz=>absurd rfl z
 | none=>
  refine j (λb=>if b=a then d4 (.frz { cls:=.type "list",data:=.seq vs.toArray } (.lst (ns.map V.int))) else d6) (λb=>?_) (.inl (.inr ⟨{ cls:=.type "list",data:=.seq vs.toArray },Aa rfl⟩)) (λb u z=>?_) (λb z=>?_) λ_=>J
  ·by_cases g:b=a;·exact .inr ⟨_,_,Aa g⟩
   ·exact .inl (Ab g)
  ·by_cases g:b=a;·have p:=(Aa g).symm.trans z;cases p;subst g;exact ⟨E,by rw [ay]; exact hl,vs,_,N,E⟩
   ·have p:=(Ab g).symm.trans z;cases p
  ·by_cases g:b=a;·exact g
   ·exact absurd (Ab g) z
theorem YV {l:dA} {n k:Nat} {q:eH} {loose:List Str} {XP:(Str->Option d5)->Heap->Prop} {YP:eI->Heap->Prop} {d:DefRec} {K:fZ->Frag} {CX:eI->CXT} {sp:eI->Sp} {x:Str}
  (A:l.most=d4 n) (r:n<=sizeLine) (hdf:d.params.defaults=[]) (z:Room k ir)
  (D:∀ (w:eI) (h:Heap),YP w h->(K w.params).In h)
  (F:∀ (w:eI) (mg:Str->Option d5) (fa:Addr) (h:Heap),(K w.params).In h->h.Ns ei mg->mg d.name=d4 (.ref fa) ->∃ fd:fA,(∀ (s:d9) (u:d5),ip s fd ⟨[u],[]⟩ [(x,u)]) /\
    ∀ base:Heap,(K w.params).In base->base.Ns ei mg->FnOk l.prog w (K w.params) mg base (CX w) k fa fd [x] (sp w))
  (p:∀ (w:eI) (H:Hp) (a:Addr) (ns:List Int),ns.length<=n->qa8 H->SqL (K w.params) H a (ns.map V.int)->sp w [.ref a] H (λv _=>v=.bl d8) λ_ _ _=>False)
  (X:∀ (w:eI) (H:Hp) (s:d9) (e:d5) (s':d9),CX w [] H s (λ_ _ _=>False) e s'->False) :
  PySem.W.WalkO q loose XP YP l.row.toRowW d [] (λf vs=>dY f vs):=by
 refine Att.attach_call A hdf λw s₀ j mg mb fa o pm cd doc a vs ns G Y I hd B t m i c hg=>?_;have y:=D w _ Y;obtain ⟨fd,C,E⟩:=F w mg fa _ y G.T.g t;exact WK y G.T.g G.T.b G.T.builtins G.T.nolimit hg m i (br c r) z E C (λH O U=>p w H a ns c O U) λH e s'=>X w H j e s'
noncomputable def Kn (s:Stmt) (j:Nat):Stmt:=match s with
 | .ClassDef _ _ _ body _ _ _ _ _ _ _=>body.getD j (.Pass ⟨0,0,0,0⟩)
 | _=>.Pass ⟨0,0,0,0⟩
noncomputable def kD (s:Stmt):Arguments:=match s with
 | .FunctionDef _ a _ _ _ _ _ _ _ _=>a
 | _=>{ posonlyargs:=[],args:=[],vararg:=d6,kwonlyargs:=[],kw_defaults:=[],kwarg:=d6,defaults:=[] }
noncomputable def jb (s:Stmt):List Stmt:=match s with
 | .FunctionDef _ _ b _ _ _ _ _ _ _=>b
 | _=>[]
noncomputable def qv (s:Stmt):fN:=match s with
 | .FunctionDef _ _ _ _ _ _ sc _ _ _=>sc
 | _=>{ kind:=.function,names:=[],isGenerator:=d7,isCoroutine:=d7 }
structure Fun (K:Frag) (x qual:Str) (st:Stmt) (f:Addr) (fd:fA):Prop where
 ex:∃ (oc:d5) (od:Option Addr) (kV doc pm:d5) (an:Option Addr) (cdv ct:d5) (osl:Array (Option d5)),fd=bf x qual (kD st) (jb st) (qv st) .none kV doc pm an cdv ct/\K.lookup f=d4 ⟨oc,od,.func fd,osl⟩/\iB K cdv qual=d8
 kp:fU K (.ref f)=d8
variable {P:eH} {w:eI} {K:Frag} {qual:Str} {st:Stmt} {f:Addr}
section
variable {mg:Str->Option d5} {base:Heap}
theorem Fun.binds {x:Str} {fd:fA} {ps:List Str} (F:Fun K x qual st f fd)
  (h:∀ (kV doc pm:d5) (an:Option Addr) (cdv ct:d5) (us:List d5),us.length=ps.length->fG (bf x qual (kD st) (jb st) (qv st) .none kV doc pm an cdv ct) ⟨us,[]⟩=pure (ps.zip us)):Binds K fd ps []:=by
 obtain ⟨oc,od,kV,doc,pm,an,cdv,ct,osl,rfl,z,d⟩:=F.ex;exact .all (h kV doc pm an cdv ct)
theorem uP {x:Str} {oc:d5} {od an:Option Addr} {osl:Array (Option d5)} {kV doc pm cdv ct:d5} (l:K.lookup f=d4 ⟨oc,od,.func (bf x qual (kD st) (jb st) (qv st) .none kV doc pm an cdv ct),osl⟩)
  (c:iB K cdv qual=d8) (k:fU K (.ref f)=d8):Fun K x qual st f (bf x qual (kD st) (jb st) (qv st) .none kV doc pm an cdv ct):=⟨⟨oc,od,kV,doc,pm,an,cdv,ct,osl,rfl,l,c⟩,k⟩
end
def Same (H H':Hp):Prop:=∀ b o,H b=d4 o->H' b=d4 o
theorem Same.refl (H:Hp):Same H H:=λ_ _ h=>h
variable {H:Hp}
theorem Same.trans {H1 H2:Hp} (a:Same H H1) (b:Same H1 H2):Same H H2:=λc o h=>b c o (a c o h)
variable {H':Hp}
theorem Same.free (e:Same H H') {l:Addr} (h:H' l=Option.none):H l=Option.none:=by
 cases q:H l with
 | none=>rfl
 | some o=>rw [e l o q] at h;cases h
variable {a:Addr}
theorem Same.seq {xs:List V} (e:Same H H') (h:SqL K H a xs):SqL K H' a xs:=by
 rcases h with (h | ⟨o,h⟩) | h;·exact .inl (.inl (e _ _ h))
 ·exact .inl (.inr ⟨o,e _ _ h⟩)
 ·exact .inr h
variable {o:Option V}
section
variable {κ:Type} [DecidableEq κ]
noncomputable def Jf (kvs:List (κ×V)) (k:κ):Option V:=(kvs.find? λkv=>decide (kv.1=k)).map (·.2)
theorem uC {p:κ×V} {r:List (κ×V)} {k:κ} (e:p.1=k):Jf (p::r) k=d4 p.2:=by simp [Jf,bS,e]
theorem uD {p:κ×V} {r:List (κ×V)} {k:κ} (e:¬p.1=k):Jf (p::r) k=Jf r k:=by simp [Jf,bS,e]
theorem Qi (k:κ):∀ kvs:List (κ×V),(kvs.any λkv=>decide (kv.1=k))=(Jf kvs k).isSome
 | []=>rfl
 | p::r=>by
  rw [dk];by_cases e:p.1=k;·simp only [uC e,decide_eq_true e,Bool.true_or,Option.isSome_some]
  ·rw [uD e,Ac e,Bool.false_or]; exact Qi k r
theorem RelO.isSome_eq {u:Option d5} (r:RelO o u):o.isSome=u.isSome:=by
 cases o with
 | none=>cases u with
  | none=>rfl
  | some _=>exact (show False from r).elim
 | some _=>cases u with
  | none=>exact (show False from r).elim
  | some _=>rfl
theorem KV.val {kvs:List (κ×V)} {vs:List (κ×d5)} (r:KV kvs vs) (k:κ):RelO (Jf kvs k) (iu vs k):=by
 unfold KV at r
 induction r with
 | nil=>exact cG
 | @cons p q ps qs h t ih=>
  obtain ⟨h1,h2⟩:=h;by_cases e:p.1=k
  ·have a:q.1=k:=h1.symm.trans e;have b:iu (q::qs) k=d4 q.2:=by simp [iu,bS,a]
   rw [uC e,b]; exact h2
  ·have a:¬q.1=k:=λz=>e (h1.trans z);have b:iu (q::qs) k=iu qs k:=by simp [iu,bS,a]
   rw [uD e,b]; exact ih
theorem KV.length {kvs:List (κ×V)} {vs:List (κ×d5)} (r:KV kvs vs):kvs.length=vs.length:=dH r
end
variable {u:d5}
theorem YW {k:Key} (r:RelV (kV k) u):(jM P w).is k u=true:=by
 cases k with
 | inl i=>obtain ⟨t,e⟩:=(show ∃ t,u=dF i t from r); subst e; exact gc P w i t
 | inr x=>obtain ⟨t,e⟩:=(show ∃ t,u=dG x t from r); subst e; exact ge P w x t
theorem xZ:∀ {ks:List Key} {us:List d5},Vals (ks.map kV) us->ItemsAre (jM P w) ks us
 | [],_,r=>by rw [bt] at r; cases r; exact .nil
 | k::ks,_,r=>by
  rw [aJ] at r;cases r with
  | cons h t=>exact .cons (YW h) (xZ t)
abbrev KT (H:Hp):List (List Key×V)->List (List Key×Addr×d5)->Prop:=Paired λp q=>p.1=q.1/\H q.2.1=d4 (.tup (p.1.map kV))/\RelV p.2 q.2.2
theorem KT.val {kvs:List (List Key×V)} {xs:List (List Key×Addr×d5)} (r:KT H kvs xs) (k:List Key):RelO (Jf kvs k) ((atKey xs k).map (·.2)):=by
 induction r with
 | nil=>exact cG
 | @cons p q ps qs h t ih=>
  obtain ⟨h1,_,h2⟩:=h;by_cases e:p.1=k
  ·have a:q.1=k:=h1.symm.trans e;have b:atKey (q::qs) k=d4 q.2:=by simp [atKey,bS,a]
   rw [uC e,b]; exact h2
  ·have a:¬q.1=k:=λz=>e (h1.trans z);have b:atKey (q::qs) k=atKey qs k:=by simp [atKey,bS,a]
   rw [uD e,b]; exact ih
variable {kvs:List (Key×V)}
section
variable {h:Heap}
theorem Gf {u:HO} (ok:HOk P w H h) (e:Rd H a u):ObjOk P w H h a u:=e.ok ok
theorem WL (ok:HOk P w H h) (e:Rd H a (.dK kvs)):kvs.length<=sizeLine/\(a == ia)=d7/\∃ vs,KV kvs vs/\h.DictOf (jM P w) a vs:=
 show ObjOk P w H h a (.dK kvs) from Gf ok e
theorem Ko {ks:List Key} (ok:HOk P w H h) (e:H a=d4 (.tup (ks.map kV))):(tupleKind (jM P w)).is h ks a:=by
 obtain ⟨_,its,r,o,h1,h2,n,j⟩:=(show ObjOk P w H h a (.tup (ks.map kV)) from ok a _ e)
 exact ⟨o,its.toArray,n,h1,h2,j,by simpa using xZ r⟩
theorem YX {kvs:List (List Key×V)} (ok:HOk P w H h) (e:Rd H a (.dT kvs)):kvs.length<=sizeLine/\(a == ia)=d7 /\
  ∃ xs,KT H kvs xs/\h.DictOfH (tupleKind (jM P w)) a xs:=by
 obtain ⟨z,y,xs,r,o,es,d,h1,h2,j,c,b⟩:=(show ObjOk P w H h a (.dT kvs) from Gf ok e)
 refine ⟨z,y,xs,r,o,es,d,h1,h2,j,c,λx hx=>?_,b⟩;have all:∀ {l:List (List Key×V)} {m:List (List Key×Addr×d5)},KT H l m->∀ x∈m,(tupleKind (jM P w)).is h x.1 x.2.1:=by
  intro l m q
  induction q with
  | nil=>intro x hx; exact nomatch hx
  | @cons p q ps qs hq t ih=>
   intro x hx;rcases aa.mp hx with e | hx
   ·subst e;exact Ko ok (by rw [<-hq.1]; exact hq.2.1)
   ·exact ih x hx
 exact all r x hx
end
def DGet (H:Hp) (a:Addr) (y:V) (r:Option V):Prop:=
 (∃ kvs k,Rd H a (.dK kvs)/\y=kV k/\r=Jf kvs k)\/∃ kvs k b,Rd H a (.dT kvs)/\y=.ref b/\H b=d4 (.tup (k.map kV))/\r=Jf kvs k
theorem DGet.k {k:Key} (e:H a=d4 (.dK kvs)):DGet H a (kV k) (Jf kvs k):=.inl ⟨kvs,k,.inl e,rfl,rfl⟩
variable {X:Cx} {pins:Pns} {σ:St} {s:d9} {y:V} {A:eZ} {E Q:d5->d9->Prop}
section
variable {v:V} {r:d5}
theorem Kp (j:A.units+1 < fz) (I:Inv X pins σ H s) (g:DGet H a y (d4 v)) (i:RelV y u) (h:∀ T s',Inv X pins σ H s'->RelV v T->Q T s'):ez (model X.prog X.w) A (iD (.ref a) u) Q E s:=by
 rcases g with ⟨kvs,k,e,f,l⟩ | ⟨kvs,k,b,e,f,J,l⟩
 ·subst f;obtain ⟨z,hd,vs,rel,dd⟩:=WL I.hok e;obtain ⟨T,c,r⟩:=RelO.some_of (v:=v) (o:=iu vs k) (by rw [l]; exact rel.val k);exact wpAny_getItem_of (YW i) dd.mapOf c (h T _ (I.tok _) r)
 ·subst f;cases (show u=bi b from i);obtain ⟨z,hd,xs,rel,dd⟩:=YX I.hok e;obtain ⟨T,c,r⟩:=RelO.some_of (v:=v) (o:=(atKey xs k).map (·.2)) (by rw [l]; exact rel.val k);obtain ⟨p,hp,d⟩:=aR.mp c;refine wpAny_getItem_heap (tupleKind_room_in1 j) (Ko I.hok J) dd hp ?_;rw [d];exact h T _ (I.tok _) r
theorem YY (d:A.units+1 < fz) (I:Inv X pins σ H s) (g:DGet H a y o) (c:RelV y u) (h:∀ s',Inv X pins σ H s'->Q (.bool (!o.isSome)) s'):ez (model X.prog X.w) A (eJ .NotIn u (.ref a)) Q E s:=by
 rcases g with ⟨kvs,k,e,f,l⟩ | ⟨kvs,k,b,e,f,J,l⟩
 ·subst f;obtain ⟨z,hd,vs,rel,dd⟩:=WL I.hok e;refine wpAny_notIn_of (YW c) hd dd.mapOf ?_;rw [<-(rel.val k).isSome_eq,<-l];exact h _ (I.tok _)
 ·subst f;cases (show u=bi b from c);obtain ⟨z,hd,xs,rel,dd⟩:=YX I.hok e;refine wpAny_notIn_heap (tupleKind_room_in1 d) (Ko I.hok J) hd dd ?_;have q:=(rel.val k).isSome_eq;rw [Option.isSome_map] at q;rw [<-q,<-l];exact h _ (I.tok _)
end
section
variable {k:Key}
theorem qa9 (I:Inv X pins σ H s) (e:Rd H a (.dK kvs)) (h:∀ t s',Inv X pins σ H s'->Q (.int kvs.length t) s'):ez (model X.prog X.w) A (call (.builtin "len") [.ref a]) Q E s:=by obtain ⟨z,hd,vs,rel,dd⟩:=WL I.hok e;refine call_len_dict hd dd (by rw [<-rel.length]; rw [ff] at z; omega) ?_;rw [<-rel.length];exact h _ _ (I.tok _)
end
theorem gk (I:Inv X pins σ H s) (g:DGet H a y o):s.TypeIs (.ref a) "dict":=by
 rcases g with ⟨kvs,k,e,_,_⟩ | ⟨kvs,k,b,e,_,_,_⟩
 ·obtain ⟨_,_,vs,_,dd⟩:=WL I.hok e;exact dd.typeIs
 ·obtain ⟨_,_,xs,_,dd⟩:=YX I.hok e;exact dd.typeIs
section
theorem Kq:vG X (.builtin "len") (λxs H Q=>∃ a kvs,xs=[V.ref a]/\H a=d4 (.dK kvs)/\Q (.int kvs.length) H):=by intro pins s σ H xs us Q I r h;obtain ⟨a,kvs,rfl,g,q⟩:=h;obtain ⟨u,rfl,B⟩:=yZ r;cases B;exact qa9 I (.inl g) λt s' b=>⟨.int kvs.length,H,b,⟨t,rfl⟩,q⟩
end
end L2
namespace L2.D2
open PySem PySem.Spec PyProof.Rows
variable {b:List Nat}
theorem jm {a:List Nat} (h:(a.all λi=>decide (i∈b))=d8):∀ i∈a,i∈b:=λi hi=>Ad (aL.mp h i hi)
theorem uQ {i:Nat} (h:decide (i∈b)=d7):i∉b:=of_decide_eq_false h
noncomputable def Kr:Expr->Bool
 | .Starred ..=>d7
 | _=>d8
variable {e:Expr} {env:Env}
theorem qK {es:List Expr} (h:Kr e=d8):eh (e::es) env=(d7,eval e env)::eh es env:=by cases e <;> first | rfl | cases h
theorem qJ (h:Kr e=d8):eh [e] env=[(d7,eval e env)]:=qK h
variable {pos:Pos}
theorem jY:∀ {es:List Expr},es.all Kr=d8->(e9 pos (eh es env)).any (·.1)=d7
 | [],_=>rfl
 | e::es,h=>by rw [dm,aA] at h;rw [qK h.1];exact jY h.2
theorem wf (h:Kr e=d8):((e9 pos (eh [e] env)).all (λx=>!x.1)&&(fJ pos (fh [] env)).all (λx=>x.1.isSome)
   && decide ([e].length+([]:List fB).length+(if ([]:List fB).isEmpty then 0 else 1) < 30))=true:=by rw [qJ h]; rfl
inductive D where
 | non | bl (b:Bool) | int (i:Int) | str (x:Str)
 | tup (xs:List D) | lst (xs:List D) | dct (kvs:List (Key×D)) | raw (v:V)
 | xcp (C:Addr) | ins (C:Addr) (fs:List (Str×D)) | at_ (a:Addr) (xs:List D)
 deriving Inhabited
abbrev Sl:=List (Option D)
inductive Out (α:Type) where
 | ok (a:α) | exc (c:Str) (o:Sl) | bad
variable {α β:Type}
noncomputable def Out.bind (o:Out α) (k:α->Out β):Out β:=match o with
 | .ok a=>k a
 | .exc c o=>.exc c o
 | .bad=>.bad
@[simp] theorem Out.og (a:α) (k:α->Out β):(Out.ok a).bind k=k a:=rfl
@[simp] theorem Out.exc_bind (c:Str) (o:Sl) (k:α->Out β):(Out.exc c o:Out α).bind k=.exc c o:=rfl
@[simp] theorem Out.bad_bind (k:α->Out β):(Out.bad:Out α).bind k=.bad:=rfl
noncomputable def gl (a C:Addr):HO:=.ext λh=>∃ o vs,h.get? a=d4 o/\o.cls=.ref C/\o.data=.fields vs
mutual
/-- the value v is the data d,all its objects in F -/
inductive Is (K:Frag) (F:Hp):V->D->Prop
 | non:Is K F .non .non
 | bl (b:Bool):Is K F (.bl b) (.bl b)
 | int (i:Int):Is K F (.int i) (.int i)
 | str {x:Str} (h:x.length<=sizeLine):Is K F (.str x) (.str x)
 | tup {a:Addr} {xs:List V} {ds:List D} (h:SqT K F a xs) (t:IsL K F xs ds):Is K F (.ref a) (.tup ds)
 | lst {a:Addr} {xs:List V} {ds:List D} (h:SqL K F a xs) (t:IsL K F xs ds):Is K F (.ref a) (.lst ds)
 | dct {a:Addr} {kv:List (Key×V)} {kvs:List (Key×D)} (h:F a=d4 (.dK kv)) (t:IsK K F kv kvs):Is K F (.ref a) (.dct kvs)
 | raw (v:V):Is K F v (.raw v)
 | xcp {a C:Addr} (h:F a=d4 (gl a C)):Is K F (.ref a) (.xcp C)
 | ins {a C dx:Addr} {fv:List (Str×V)} {fs:List (Str×D)} (h:F a=d4 (.ins C dx fv)) (t:IsF K F fv fs):Is K F (.ref a) (.ins C fs)
 | at_ {a:Addr} {xs:List V} {ds:List D} (h:SqL K F a xs) (t:IsL K F xs ds):Is K F (.ref a) (.at_ a ds)
inductive IsL (K:Frag) (F:Hp):List V->List D->Prop
 | nil:IsL K F [] []
 | cons {v:V} {d:D} {vs:List V} {ds:List D} (h:Is K F v d) (t:IsL K F vs ds):IsL K F (v::vs) (d::ds)
inductive IsK (K:Frag) (F:Hp):List (Key×V)->List (Key×D)->Prop
 | nil:IsK K F [] []
 | cons {k:Key} {v:V} {d:D} {vs:List (Key×V)} {ds:List (Key×D)} (h:Is K F v d) (t:IsK K F vs ds):IsK K F ((k,v)::vs) ((k,d)::ds)
inductive IsF (K:Frag) (F:Hp):List (Str×V)->List (Str×D)->Prop
 | nil:IsF K F [] []
 | cons {k:Str} {v:V} {d:D} {vs:List (Str×V)} {ds:List (Str×D)} (h:Is K F v d) (t:IsF K F vs ds):IsF K F ((k,v)::vs) ((k,d)::ds)
end
theorem qO {K:Frag} {H H':Hp} {a:Addr} {xs:List V} (e:Same H H') (h:SqT K H a xs):SqT K H' a xs:=by
 rcases h with (h | ⟨o,h⟩) | h;·exact .inl (.inl (e _ _ h))
 ·exact .inl (.inr ⟨o,e _ _ h⟩)
 ·exact .inr h
mutual
theorem Is.mono {K:Frag} {F F':Hp} (e:Same F F'):∀ {v:V} {d:D},Is K F v d->Is K F' v d
 | _,_,.non=>.non
 | _,_,.bl b=>.bl b
 | _,_,.int i=>.int i
 | _,_,.str h=>.str h
 | _,_,.tup h t=>.tup (qO e h) (IsL.mono e t)
 | _,_,.lst h t=>.lst (e.seq h) (IsL.mono e t)
 | _,_,.dct h t=>.dct (e _ _ h) (IsK.mono e t)
 | _,_,.raw v=>.raw v
 | _,_,.xcp h=>.xcp (e _ _ h)
 | _,_,.ins h t=>.ins (e _ _ h) (IsF.mono e t)
 | _,_,.at_ h t=>.at_ (e.seq h) (IsL.mono e t)
theorem IsL.mono {K:Frag} {F F':Hp} (e:Same F F'):∀ {vs:List V} {ds:List D},IsL K F vs ds->IsL K F' vs ds
 | _,_,.nil=>.nil
 | _,_,.cons h t=>.cons (Is.mono e h) (IsL.mono e t)
theorem IsK.mono {K:Frag} {F F':Hp} (e:Same F F'):∀ {vs:List (Key×V)} {ds:List (Key×D)},IsK K F vs ds->IsK K F' vs ds
 | _,_,.nil=>.nil
 | _,_,.cons h t=>.cons (Is.mono e h) (IsK.mono e t)
theorem IsF.mono {K:Frag} {F F':Hp} (e:Same F F'):∀ {vs:List (Str×V)} {ds:List (Str×D)},IsF K F vs ds->IsF K F' vs ds
 | _,_,.nil=>.nil
 | _,_,.cons h t=>.cons (Is.mono e h) (IsF.mono e t)
end
theorem IsL.length {K:Frag} {F:Hp}:∀ {vs:List V} {ds:List D},IsL K F vs ds->vs.length=ds.length
 | _,_,.nil=>rfl
 | _,_,.cons _ t=>congrArg (·+1) (IsL.length t)
theorem IsL.get {K:Frag} {F:Hp}:∀ {vs:List V} {ds:List D} {i:Nat} {v:V},IsL K F vs ds->vs[i]?=d4 v->∃ d,ds[i]?=d4 d/\Is K F v d
 | _,_,_,_,.nil,e=>by simp at e
 | _,_,0,_,.cons h _,e=>by simp at e; subst e; exact ⟨_,rfl,h⟩
 | _,_,i+1,v,.cons _ t,e=>by obtain ⟨d,h1,h2⟩:=IsL.get (i:=i) (v:=v) t (by simpa using e);exact ⟨d,by simpa using h1,h2⟩
theorem IsL.getD {K:Frag} {F:Hp}:∀ {vs:List V} {ds:List D} {i:Nat} {d:D},IsL K F vs ds->ds[i]?=d4 d->∃ v,vs[i]?=d4 v/\Is K F v d
 | _,_,_,_,.nil,e=>by simp at e
 | _,_,0,_,.cons h _,e=>by simp at e; subst e; exact ⟨_,rfl,h⟩
 | _,_,i+1,v,.cons _ t,e=>by obtain ⟨d,h1,h2⟩:=IsL.getD (i:=i) (d:=v) t (by simpa using e);exact ⟨d,by simpa using h1,h2⟩
theorem IsL.append {K:Frag} {F:Hp}:∀ {vs ws:List V} {ds es:List D},IsL K F vs ds->IsL K F ws es->IsL K F (vs++ws) (ds++es)
 | _,_,_,_,.nil,s=>s
 | _,_,_,_,.cons h t,s=>.cons h (IsL.append t s)
def OwnIs (K:Frag) (F H:Hp) (a:Addr):D->Prop
 | .lst ds=>∃ xs,H a=d4 (.lst xs)/\IsL K F xs ds
 | .dct kvs=>∃ kv,H a=d4 (.dK kv)/\IsK K F kv kvs
 | .ins C fs=>∃ dx fv,H a=d4 (.ins C dx fv)/\IsF K F fv fs
 | .at_ b ds=>b=a/\∃ xs,H a=d4 (.lst xs)/\IsL K F xs ds
 | _=>False
def TopIs (K:Frag) (F H:Hp) (v:V) (d:D):Prop:=Is K F v d\/∃ a,v=.ref a/\OwnIs K F H a d
inductive Mo where
 | sh | fr | any
def MoIs (K:Frag) (m:Mo) (H0 F H:Hp) (v:V) (d:D):Prop:=match m with
 | .sh=>Is K F v d
 | .fr=>∃ a,v=.ref a/\H0 a=d6/\F a=d6/\OwnIs K F H a d
 | .any=>TopIs K F H v d
theorem MoIs.top {K:Frag} {m:Mo} {H0 F H:Hp} {v:V} {d:D} (h:MoIs K m H0 F H v d):TopIs K F H v d:=by
 cases m with
 | sh=>exact .inl h
 | fr=>obtain ⟨a,e,_,_,o⟩:=h; exact .inr ⟨a,e,o⟩
 | any=>exact h
structure Chg (A:Addr->Prop) (F H F' H':Hp):Prop where
 keep:∀ b o,H b=d4 o->¬A b->H' b=d4 o
 stay:∀ b,H b≠d6->H' b≠d6
 grow:Same F F'
 new:∀ b,F' b≠d6->F b≠d6\/H b=d6\/A b
theorem Chg.refl {A:Addr->Prop} {F H:Hp}:Chg A F H F H:=⟨λ_ _ e _=>e,λ_ h=>h,Same.refl _,λ_ h=>.inl h⟩
theorem Chg.trans {A d:Addr->Prop} {F H F1 H1 c H2:Hp} (a:Chg A F H F1 H1) (b:Chg d F1 H1 c H2) (hA:∀ x,d x->A x\/H x=d6):Chg A F H c H2 where
 keep:=λx o e n=>b.keep x o (a.keep x o e n) λz=>(hA x z).elim n λq=>by rw [e] at q; cases q
 stay:=λx h=>b.stay x (a.stay x h)
 grow:=a.grow.trans b.grow
 new:=λx h=>by
  rcases b.new x h with q | q | q;·exact a.new x q
  ·refine .inr (.inl ?_);cases e:H x with
   | none=>rfl
   | some o=>exact absurd q (a.stay x (by rw [e]; simp))
  ·rcases hA x q with z | z;·exact .inr (.inr z)
   ·exact .inr (.inl z)
theorem Chg.trans' {A:Addr->Prop} {F H F1 H1 c H2:Hp} (a:Chg A F H F1 H1) (b:Chg A F1 H1 c H2):Chg A F H c H2:=a.trans b λ_ z=>.inl z
theorem Chg.mono {A c:Addr->Prop} {F H F1 H1:Hp} (a:Chg A F H F1 H1) (h:∀ x,A x->c x):Chg c F H F1 H1:=
 ⟨λb o e n=>a.keep b o e λz=>n (h b z),a.stay,a.grow,λb z=>(a.new b z).imp id (Or.imp id (h b))⟩
abbrev No:Addr->Prop:=λ_=>False
theorem Chg.ofNo {A:Addr->Prop} {F H F1 H1:Hp} (a:Chg No F H F1 H1):Chg A F H F1 H1:=a.mono λ_ z=>z.elim
structure Rep (K:Frag) (own:List Nat) (F H:Hp) (σ:St) (ρ:Sl):Prop where
 sub:Same F H
 len:σ.length=ρ.length
 val:∀ i d,i∉own->ρ[i]?=d4 (d4 d)->∃ v,σ[i]?=d4 (d4 v)/\Is K F v d
 ow:∀ i d,i∈own->ρ[i]?=d4 (d4 d)->∃ a,σ[i]?=d4 (d4 (.ref a))/\F a=d6/\OwnIs K F H a d
 opn:∀ i,i∈own->∃ d,ρ[i]?=d4 (d4 d)
 dis:∀ i j a,i∈own->j∈own->σ[i]?=d4 (d4 (V.ref a))->σ[j]?=d4 (d4 (V.ref a))->i=j
def OA (own:List Nat) (σ:St):Addr->Prop:=λb=>∃ i∈own,σ[i]?=d4 (d4 (V.ref b))
theorem OwnIs.there {K:Frag} {F H:Hp} {a:Addr} {d:D} (h:OwnIs K F H a d):H a≠none:=by
 cases d with
 | lst ds=>obtain ⟨xs,e,_⟩:=h; rw [e]; simp
 | dct ds=>obtain ⟨xs,e,_⟩:=h; rw [e]; simp
 | ins C fs=>obtain ⟨dx,xs,e,_⟩:=h; rw [e]; simp
 | at_ b ds=>obtain ⟨_,xs,e,_⟩:=h; rw [e]; simp
 | _=>exact h.elim
theorem OwnIs.grow {K:Frag} {F H F' H':Hp} {a:Addr} {d:D} (h:OwnIs K F H a d) (g:Same F F') (k:∀ o,H a=d4 o->H' a=d4 o):OwnIs K F' H' a d:=by
 cases d with
 | lst ds=>obtain ⟨xs,e,t⟩:=h; exact ⟨xs,k _ e,t.mono g⟩
 | dct ds=>obtain ⟨xs,e,t⟩:=h; exact ⟨xs,k _ e,t.mono g⟩
 | ins C fs=>obtain ⟨dx,xs,e,t⟩:=h; exact ⟨dx,xs,k _ e,t.mono g⟩
 | at_ b ds=>obtain ⟨J,xs,e,t⟩:=h; exact ⟨J,xs,k _ e,t.mono g⟩
 | _=>exact h.elim
theorem Rep.OA_there {K:Frag} {own:List Nat} {F H:Hp} {σ:St} {ρ:Sl} (r:Rep K own F H σ ρ) {b:Addr} (h:OA own σ b):H b≠d6/\F b=none:=by obtain ⟨i,hi,e⟩:=h;obtain ⟨d,hd⟩:=r.opn i hi;obtain ⟨a,e1,j,o⟩:=r.ow i d hi hd;rw [e] at e1;cases e1;exact ⟨o.there,j⟩
theorem Rep.grow {K:Frag} {own:List Nat} {F H F' H':Hp} {σ:St} {ρ:Sl} (r:Rep K own F H σ ρ) (c:Chg No F H F' H') (s:Same F' H'):Rep K own F' H' σ ρ where
 sub:=s
 len:=r.len
 val:=λi d hi e=>let ⟨v,h1,h2⟩:=r.val i d hi e; ⟨v,h1,h2.mono c.grow⟩
 ow:=λi d hi e=>by
  obtain ⟨a,h1,h2,j⟩:=r.ow i d hi e;refine ⟨a,h1,?_,j.grow c.grow λo q=>c.keep a o q λz=>z⟩;cases q:F' a with
  | none=>rfl
  | some o=>
   rcases c.new a (by rw [q]; simp) with z | z | z;·exact absurd h2 z
   ·exact absurd z j.there
   ·exact z.elim
 opn:=r.opn
 dis:=r.dis
theorem MoIs.grow {K:Frag} {A:Addr->Prop} {m:Mo} {H0 F H F' H':Hp} {v:V} {d:D} (h:MoIs K m H0 F H v d) (f:m≠.any) (c:Chg A F H F' H') (hA:∀ x,A x->H0 x≠d6):MoIs K m H0 F' H' v d:=by
 cases m with
 | sh=>exact Is.mono c.grow h
 | fr=>
  obtain ⟨a,e,b,E,o⟩:=h;have n:¬A a:=λz=>hA a z b;refine ⟨a,e,b,?_,o.grow c.grow λo q=>c.keep a o q n⟩;cases q:F' a with
  | none=>rfl
  | some u=>
   rcases c.new a (by rw [q]; simp) with z | z | z;·exact absurd E z
   ·exact absurd z o.there
   ·exact absurd z n
 | any=>exact absurd rfl f
def JK (K:Frag) (io:List Nat) (F H:Hp) (σ:St) (ρ:Sl):Prop:=∀ i∈io,∃ d a,ρ[i]?=d4 (d4 d)/\σ[i]?=d4 (d4 (V.ref a))/\F a=d6/\OwnIs K F H a d
theorem Rep.ioIs {K:Frag} {own io:List Nat} {F H:Hp} {σ:St} {ρ:Sl} (r:Rep K own F H σ ρ) (h:∀ i∈io,i∈own):JK K io F H σ ρ:=λi hi=>by obtain ⟨d,hd⟩:=r.opn i (h i hi);obtain ⟨a,h1,h2,j⟩:=r.ow i d (h i hi) hd;exact ⟨d,a,hd,h1,h2,j⟩
structure Ct where
 K:Frag
 cv:Str->d5
 E:XK
 io:List Nat
 mr:Mo
 ol:List Nat
 ox:List Nat
 oxs:∀ i∈ox,i∈io
abbrev za:=Out (D×Sl)
def Po (C:Ct) (own:List Nat) (m:Mo) (σ:St) (F H:Hp) (r:za) (Q:VK):Prop:=match r with
 | .ok (d,ρ')=>∀ v F' H',Rep C.K own F' H' σ ρ'->Chg (OA own σ) F H F' H'->MoIs C.K m H F' H' v d->Q v H'
 | .exc c ρ'=>∀ F' H',Same F' H'->JK C.K C.ox F' H' σ ρ'->Chg (OA own σ) F H F' H'->C.E (C.cv c) d6 H'
 | .bad=>False
abbrev qM:=Sl->za
def tE (C:Ct) (own:List Nat) (m:Mo) (f:qM):TE:=λσ H Q=>∃ F ρ,Rep C.K own F H σ ρ/\Po C own m σ F H (f ρ) Q
theorem MoIs.back {K:Frag} {m:Mo} {A:Addr->Prop} {H0 F H F1 H1:Hp} {f Ha:Hp} {v:V} {d:D} (c:Chg A f H0 F1 H1) (h:MoIs K m H1 F H v d):MoIs K m H0 F H v d:=by
 cases m with
 | sh=>exact h
 | fr=>
  obtain ⟨a,e,b,r⟩:=h;refine ⟨a,e,?_,r⟩;cases q:H0 a with
  | none=>rfl
  | some o=>exact absurd b (c.stay a (by rw [q]; simp))
 | any=>exact h
theorem Po.shift {C:Ct} {own:List Nat} {m:Mo} {σ:St} {F H F1 H1:Hp} {r:za} {Q:VK} (h:Po C own m σ F H r Q) (c:Chg (OA own σ) F H F1 H1):Po C own m σ F1 H1 r Q:=by
 cases r with
 | ok p=>exact λv F' H' a U mo=>h v F' H' a (c.trans' U) (MoIs.back (Ha:=H1) c mo)
 | exc x=>exact λF' H' s io U=>h F' H' s io (c.trans' U)
 | bad=>exact h.elim
theorem Po.bind {C:Ct} {own:List Nat} {m ma:Mo} {σ:St} {F H:Hp} {o:za} {k:D×Sl->za} {Q R:VK} (hp:Po C own m σ F H (o.bind k) Q)
  (h:∀ v F1 H1 d ρ1,Rep C.K own F1 H1 σ ρ1->Chg (OA own σ) F H F1 H1->MoIs C.K ma H F1 H1 v d->Po C own m σ F1 H1 (k (d,ρ1)) Q->R v H1):Po C own ma σ F H o R:=by
 cases o with
 | ok p=>obtain ⟨d,ρ1⟩:=p;exact λv F1 H1 a c mo=>h v F1 H1 d ρ1 a c mo (Po.shift (show Po C own m σ F H (k (d,ρ1)) Q from hp) c)
 | exc x=>exact hp
 | bad=>exact hp.elim
def PoV (C:Ct) (m:Mo) (F H:Hp) (r:Out D) (Q:VK):Prop:=match r with
 | .ok d=>∀ v F' H',Same F' H'->Chg No F H F' H'->MoIs C.K m H F' H' v d->Q v H'
 | _=>False
def OpD (X:Cx) (C:Ct) (m:Mo) (f:d5->d5->Sem d5) (g:D->D->Out D):Prop:=
 OpR X f (λx y H Q=>∃ F dx d,Same F H/\TopIs C.K F H x dx/\TopIs C.K F H y d/\PoV C m F H (g dx d) Q)
def UnD (X:Cx) (C:Ct) (m:Mo) (f:d5->Sem d5) (g:D->Out D):Prop:=
 UnR X f (λx H Q=>∃ F dx,Same F H/\TopIs C.K F H x dx/\PoV C m F H (g dx) Q)
noncomputable def Out.plain {α:Type}:Out α->Out α
 | .ok a=>.ok a
 | _=>.bad
theorem PoV.of {C:Ct} {own:List Nat} {m:Mo} {σ:St} {F H:Hp} {o:Out D} {ρ:Sl} {Q:VK} (a:Rep C.K own F H σ ρ) (h:Po C own m σ F H (o.plain.bind λd=>.ok (d,ρ)) Q):PoV C m F H o Q:=by
 cases o with
 | ok d=>exact λv F' H' s c mo=>h v F' H' (a.grow c s) c.ofNo mo
 | exc c=>exact h.elim
 | bad=>exact h.elim
noncomputable def d2 (g:D->D->Out D) (fa fb:qM):qM:=λρ=>(fa ρ).bind λp=>(fb p.2).bind λq=>(g p.1 q.1).plain.bind λd=>.ok (d,q.2)
noncomputable def d1 (g:D->Out D) (fa:qM):qM:=λρ=>(fa ρ).bind λp=>(g p.1).plain.bind λd=>.ok (d,p.2)
section
variable {X:Cx} {C:Ct} {own:List Nat} {a b:Expr} {fa fb:qM} {m ma mb:Mo} {pos:Pos}
theorem zb {g:D->D->Out D} {σ:St} {H:Hp} {Q:VK} (f:ma≠.any) (h:tE C own m (d2 g fa fb) σ H Q):tE C own ma fa σ H λx H1=>tE C own mb fb σ H1 λy H2=>∃ F dx i,Same F H2/\TopIs C.K F H2 x dx/\TopIs C.K F H2 y i/\PoV C m F H2 (g dx i) Q:=by obtain ⟨F,ρ,p,h⟩:=h;refine ⟨F,ρ,p,Po.bind h λv F1 H1 d ρ1 a l c h1=>⟨F1,ρ1,a,Po.bind h1 λw k H2 e j r c2 b h2=>?_⟩⟩;exact ⟨k,d,e,r.sub,(c.grow f c2 λx z=>(p.OA_there z).1).top,b.top,PoV.of r h2⟩
theorem gm {g:D->Out D} {σ:St} {H:Hp} {Q:VK} (h:tE C own m (d1 g fa) σ H Q):tE C own ma fa σ H λx H1=>∃ F dx,Same F H1/\TopIs C.K F H1 x dx/\PoV C m F H1 (g dx) Q:=by obtain ⟨F,ρ,r,h⟩:=h;refine ⟨F,ρ,r,Po.bind h λv F1 H1 d ρ1 a l c h1=>?_⟩;exact ⟨F1,d,a.sub,c.top,PoV.of a h1⟩
theorem jd {e:Expr} {t t':TE} (h:PE X e t) (i:∀ σ H Q,t' σ H Q->t σ H Q):PE X e t':=⟨λpins s σ H Q I w=>h pins s σ H Q I (i σ H Q w)⟩
theorem WM {e:Expr} {t t':TT} (h:PT X e t) (i:∀ σ H Q,t' σ H Q->t σ H Q):PT X e t':=⟨λpins s σ H Q I w=>h pins s σ H Q I (i σ H Q w)⟩
theorem qR {op:Operator} {g:D->D->Out D} (s:OpD X C m (fq op) g) (c:PE X a (tE C own ma fa)) (d:PE X b (tE C own mb fb)) (f:ma≠.any:=by decide):PE X (.BinOp a op b pos) (tE C own m (d2 g fa fb)):=
 jd (qaU s c d) λ_ _ _ h=>zb f h
theorem zc {op:CmpOp} {g:D->D->Out D} (s:OpD X C m (eJ op) g) (c:PE X a (tE C own ma fa)) (d:PE X b (tE C own mb fb)) (f:ma≠.any:=by decide)
  (k:fO op b=false:=by first | exact Yk _ | with_unfolding_all rfl):PE X (.Compare a [op] [b] pos) (tE C own m (d2 g fa fb)):=
 jd (YG s c d k) λ_ _ _ h=>zb f h
theorem Ks {op:UnaryOp} {g:D->Out D} (s:UnD X C m (unaryOp op) g) (b:PE X a (tE C own ma fa)):PE X (.UnaryOp op a pos) (tE C own m (d1 g fa)):=
 jd (qaV s b) λ_ _ _ h=>gm h
end
instance:DecidableEq Mo:=λa b=>by cases a <;> cases b <;> first | exact isTrue rfl | exact isFalse (by intro h; cases h)
theorem WN {K:Frag} {own:List Nat} {H0 F H:Hp} {σ:St} {ρ:Sl} {v:V} {d:D} (r:Rep K own F H σ ρ) (hA:∀ b,OA own σ b->H0 b≠d6) (h:MoIs K .fr H0 F H v d):∃ F',Rep K own F' H σ ρ/\Same F F'/\Is K F' v d/\∀ b,F' b≠d6->F b≠d6\/H0 b=none:=by
 obtain ⟨a,rfl,g,E,o⟩:=h;obtain ⟨u,hu⟩:∃ u,H a=d4 u:=by
  cases q:H a with
  | none=>exact absurd q o.there
  | some u=>exact ⟨u,rfl⟩
 have gr:Same F (upd F a u):=λb w e=>by rw [qu (qx e E)]; exact e
 have A:Same (upd F a u) H:=λb w e=>by
  by_cases q:b=a;·subst q; rw [ql] at e; cases e; exact hu
  ·rw [qu q] at e; exact r.sub b w e
 refine ⟨upd F a u,⟨A,r.len,λi d hi e=>?_,λi d hi e=>?_,r.opn,r.dis⟩,gr,?_,λb f=>?_⟩;·obtain ⟨v,h1,h2⟩:=r.val i d hi e;exact ⟨v,h1,h2.mono gr⟩
 ·obtain ⟨c,h1,h2,j⟩:=r.ow i d hi e;refine ⟨c,h1,?_,j.grow gr λ_ q=>q⟩;have n:c≠a:=λq=>by subst q; exact hA c ⟨i,hi,h1⟩ g
  rw [qu n]; exact h2
 ·cases d with
  | lst ds=>obtain ⟨xs,e,t⟩:=o; rw [hu] at e; cases e; exact .lst (.inl (.inl ql)) (t.mono gr)
  | dct ds=>obtain ⟨xs,e,t⟩:=o; rw [hu] at e; cases e; exact .dct ql (t.mono gr)
  | ins C fs=>obtain ⟨dx,xs,e,t⟩:=o; rw [hu] at e; cases e; exact .ins ql (t.mono gr)
  | at_ b ds=>obtain ⟨J,xs,e,t⟩:=o; rw [hu] at e; cases e; subst J; exact .at_ (.inl (.inl ql)) (t.mono gr)
  | _=>exact o.elim
 ·by_cases q:b=a;·exact .inr (by rw [q]; exact g)
  ·rw [qu q] at f; exact .inl f
theorem Po.toSh {C:Ct} {own:List Nat} {m:Mo} {σ:St} {F H:Hp} {d:Sl} {r:za} {Q:VK} (f:Rep C.K own F H σ d) (g:m≠.any) (h:Po C own .sh σ F H r Q):Po C own m σ F H r Q:=by
 cases r with
 | ok p=>
  intro v F' H' a c mo;cases m with
  | sh=>exact h v F' H' a c mo
  | fr=>
   obtain ⟨j,e,gr,is,n⟩:=WN a (λb z=>(f.OA_there z).1) mo;refine h v j H' e ⟨c.keep,c.stay,c.grow.trans gr,λb i=>?_⟩ is;rcases n b i with z | z;·exact c.new b z
   ·exact .inr (.inl z)
  | any=>exact absurd rfl g
 | exc x=>exact h
 | bad=>exact h.elim
section
variable {X:Cx} {C:Ct} {own:List Nat} {a b e:Expr} {f fa fb:qM} {m ma mb:Mo} {pos:Pos}
theorem uR (h:PE X e (tE C own m f)) (c:m≠.any):PE X e (tE C own .sh f):=jd h λ_ _ _ ⟨F,ρ,a,p⟩=>⟨F,ρ,a,p.toSh a c⟩
noncomputable def qd (i:Nat):qM:=λρ=>match ρ[i]? with
 | some (d4 d)=>.ok (d,ρ)
 | _=>.bad
noncomputable def dC (d:D):qM:=λρ=>.ok (d,ρ)
theorem Gg {i:Nat} {x:Str} (b:X.N[i]?=d4 x) (c:Vis X.env.scope x) (s:i∉own) (hd:Dbg x:=by decide) (a:Cdk x:=by decide):PE X (.Name x pos) (tE C own .sh (qd i)):=by
 refine jd (xS b c hd a) λσ H Q ⟨F,ρ,r,h⟩=>?_;unfold qd at h;cases e:ρ[i]? with
 | none=>rw [e] at h; exact h.elim
 | some o=>
  cases o with
  | none=>rw [e] at h; exact h.elim
  | some d=>rw [e] at h;obtain ⟨v,h1,h2⟩:=r.val i d s e;exact ⟨v,h1,h v F H r .refl h2⟩
theorem YZ {i:Nat} {x:Str} (f:X.N[i]?=d4 x) (c:Vis X.env.scope x) (s:i∈own) (hd:Dbg x:=by decide) (b:Cdk x:=by decide):PE X (.Name x pos) (tE C own .any (qd i)):=by
 refine jd (xS f c hd b) λσ H Q ⟨F,ρ,r,h⟩=>?_;unfold qd at h;cases e:ρ[i]? with
 | none=>rw [e] at h; exact h.elim
 | some o=>
  cases o with
  | none=>rw [e] at h; exact h.elim
  | some d=>rw [e] at h;obtain ⟨a,h1,h2,j⟩:=r.ow i d s e;exact ⟨_,h1,h _ F H r .refl (.inr ⟨a,rfl,j⟩)⟩
theorem Gh {v:V} {d:D} (h:PE X e (tC v)) (i:∀ F,Is C.K F v d):PE X e (tE C own .sh (dC d)):=jd h λσ H Q ⟨F,ρ,a,h⟩=>h v F H a .refl (i F)
theorem qo {i j pos}:PE X (.Constant (.int i) j pos) (tE C own .sh (dC (.int i))):=Gh ZF λ_=>.int i
theorem yv {i j pos}:PE X (.Constant (.bool i) j pos) (tE C own .sh (dC (.bl i))):=Gh YA λ_=>.bl i
theorem vK {j pos}:PE X (.Constant .none j pos) (tE C own .sh (dC .non)):=Gh ZG λ_=>.non
theorem qU {x j pos} (h:du x<=sizeLine:=by decide):PE X (.Constant (.str x) j pos) (tE C own .sh (dC (.str x))):=Gh ZH λ_=>.str h
theorem Kt {x:Str} {v:V} {d:D} {u:d5} (hg:Gl X x) (c:X.mg x=d4 u) (r:RelV v u) (i:∀ F,Is C.K F v d) (hd:Dbg x:=by decide):PE X (.Name x pos) (tE C own .sh (dC d)):=Gh (JT hg c r hd) i
noncomputable def uS (g:Int->Int->Out D):D->D->Out D
 | .int i,.int j=>g i j
 | _,_=>.bad
theorem TopIs.int {K:Frag} {F H:Hp} {v:V} {i:Int} (h:TopIs K F H v (.int i)):v=.int i:=by
 rcases h with h | ⟨a,_,h⟩
 ·cases h; rfl
 ·exact h.elim
theorem TopIs.str {K:Frag} {F H:Hp} {v:V} {x:Str} (h:TopIs K F H v (.str x)):v=.str x/\x.length<=sizeLine:=by
 rcases h with h | ⟨a,_,h⟩
 ·cases h; exact ⟨rfl,by assumption⟩
 ·exact h.elim
theorem TopIs.bl {K:Frag} {F H:Hp} {v:V} {x:Bool} (h:TopIs K F H v (.bl x)):v=.bl x:=by
 rcases h with h | ⟨a,_,h⟩
 ·cases h; rfl
 ·exact h.elim
theorem TopIs.non {K:Frag} {F H:Hp} {v:V} (h:TopIs K F H v .non):v=.non:=by
 rcases h with h | ⟨a,_,h⟩
 ·cases h; rfl
 ·exact h.elim
theorem TopIs.lst {K:Frag} {F H:Hp} {v:V} {ds:List D} (s:Same F H) (h:TopIs K F H v (.lst ds)):∃ a xs,v=.ref a/\SqL K H a xs/\IsL K F xs ds:=by
 rcases h with h | ⟨a,e,h⟩
 ·cases h with
  | lst h t=>exact ⟨_,_,rfl,s.seq h,t⟩
 ·obtain ⟨xs,j,t⟩:=h;exact ⟨a,xs,e,.inl (.inl j),t⟩
theorem TopIs.tup {K:Frag} {F H:Hp} {v:V} {ds:List D} (s:Same F H) (h:TopIs K F H v (.tup ds)):∃ a xs,v=.ref a/\SqT K H a xs/\IsL K F xs ds:=by
 rcases h with h | ⟨a,e,h⟩
 ·cases h with
  | tup h t=>exact ⟨_,_,rfl,qO s h,t⟩
 ·exact h.elim
theorem TopIs.dct {K:Frag} {F H:Hp} {v:V} {ds:List (Key×D)} (s:Same F H) (h:TopIs K F H v (.dct ds)):∃ a kv,v=.ref a/\H a=d4 (.dK kv)/\IsK K F kv ds:=by
 rcases h with h | ⟨a,e,h⟩
 ·cases h with
  | dct h t=>exact ⟨_,_,rfl,s _ _ h,t⟩
 ·obtain ⟨xs,j,t⟩:=h;exact ⟨a,xs,e,j,t⟩
theorem Yl {fn:d5->d5->Sem d5} {P:Int->Int->Prop} [∀ i j,Decidable (P i j)] {g:Int->Int->V} {d:Int->Int->D} (o:OpR X fn (rI P g)) (hg:∀ F i j,Is C.K F (g i j) (d i j)):OpD X C .sh fn (uS λi j=>if P i j then .ok (d i j) else .bad):=by
 intro pins s σ H x y v u Q I r c h;obtain ⟨F,dx,a,A,t,ty,po⟩:=h;cases dx <;> try exact po.elim
 cases a <;> try exact po.elim
 rename_i i j;have po:PoV C .sh F H (if P i j then .ok (d i j) else .bad) Q:=po;obtain rfl:=t.int;obtain rfl:=ty.int;by_cases q:P i j;·rw [Aa q] at po;exact o pins s σ H _ _ v u Q I r c ⟨i,j,rfl,rfl,q,po (g i j) F H A .refl (hg F i j)⟩
 ·rw [Ab q] at po; exact po.elim
theorem Ku {fn:d5->d5->Sem d5} {g:Int->Int->V} {d:Int->Int->D} (o:OpR X fn (rI0 g)) (hg:∀ F i j,Is C.K F (g i j) (d i j)):OpD X C .sh fn (uS λi j=>.ok (d i j)):=by
 intro pins s σ H x y v u Q I r c h;obtain ⟨F,dx,a,A,t,ty,po⟩:=h;cases dx <;> try exact po.elim
 cases a <;> try exact po.elim
 rename_i i j;obtain rfl:=t.int;obtain rfl:=ty.int;exact o pins s σ H _ _ v u Q I r c ⟨i,j,rfl,rfl,po (g i j) F H A .refl (hg F i j)⟩
noncomputable def Wq:D->D->Out D:=uS λi j=>.ok (.int (i - j))
theorem uf:OpD X C .sh (fq .Sub) Wq:=Ku ZQ λ_ _ _=>.int _
instance:∀ i j,Decidable (CMul i j):=λi j=>inferInstanceAs (Decidable (_\/_))
instance:∀ i j,Decidable (qcp i j):=λi j=>inferInstanceAs (Decidable (_/\_))
noncomputable def Ym:D->D->Out D:=uS λi j=>if CMul i j then .ok (.int (i * j)) else .bad
theorem zd:OpD X C .sh (fq .Mult) Ym:=Yl ZR λ_ _ _=>.int _
noncomputable def Xa:D->D->Out D:=uS λi j=>if 0 < j then .ok (.int (i % j)) else .bad
theorem Qj:OpD X C .sh (fq .Mod) Xa:=Yl ZT λ_ _ _=>.int _
noncomputable def vQ (x y:Str):Bool:=decide (x.cps.toList < y.cps.toList)
noncomputable def ltD:D->D->Out D
 | .int i,.int j=>.ok (.bl (decide (i < j)))
 | .str x,.str y=>.ok (.bl (vQ x y))
 | _,_=>.bad
theorem WO:OpD X C .sh (eJ .Lt) ltD:=by
 intro pins s σ H x y v u Q I d c h;obtain ⟨F,dx,a,A,t,ty,po⟩:=h;cases dx <;> try exact po.elim
 ·cases a <;> try exact po.elim
  obtain rfl:=t.int;obtain rfl:=ty.int;exact qaX pins s σ H _ _ v u Q I d c ⟨_,_,rfl,rfl,po _ F H A .refl (.bl _)⟩
 ·cases a <;> try exact po.elim
  obtain ⟨rfl,_⟩:=t.str;obtain ⟨rfl,_⟩:=ty.str;exact Ka pins s σ H _ _ v u Q I d c ⟨_,_,rfl,rfl,po _ F H A .refl (.bl _)⟩
end
noncomputable def eqS (a b:D):Option Bool:=match a with
 | .non=>match b with
  | .non=>d4 d8
  | .bl _=>d4 d7
  | .int _=>d4 d7
  | .str _=>d4 d7
  | .tup _=>d4 d7
  | .lst _=>d4 d7
  | .dct _ | .raw _ | .xcp _ | .ins _ _ | .at_ _ _=>d6
 | .bl x=>match b with
  | .non=>d4 d7
  | .bl y=>d4 (x == y)
  | .int y=>d4 ((if x then 1 else 0) == y)
  | .str _=>d4 d7
  | .tup _=>d4 d7
  | .lst _=>d4 d7
  | .dct _ | .raw _ | .xcp _ | .ins _ _ | .at_ _ _=>d6
 | .int x=>match b with
  | .non=>d4 d7
  | .bl y=>d4 (x == (if y then 1 else 0))
  | .int y=>d4 (x == y)
  | .str _=>d4 d7
  | .tup _=>d4 d7
  | .lst _=>d4 d7
  | .dct _ | .raw _ | .xcp _ | .ins _ _ | .at_ _ _=>d6
 | .str x=>match b with
  | .non=>d4 d7
  | .bl _=>d4 d7
  | .int _=>d4 d7
  | .str y=>d4 (x == y)
  | .tup _=>d4 d7
  | .lst _=>d4 d7
  | .dct _ | .raw _ | .xcp _ | .ins _ _ | .at_ _ _=>d6
 | .tup x=>match b with
  | .non=>d4 d7
  | .bl _=>d4 d7
  | .int _=>d4 d7
  | .str _=>d4 d7
  | .tup _=>d6
  | .lst _=>d4 d7
  | .dct _ | .raw _ | .xcp _ | .ins _ _ | .at_ _ _=>d6
 | .lst x=>match b with
  | .non=>d4 d7
  | .bl _=>d4 d7
  | .int _=>d4 d7
  | .str _=>d4 d7
  | .tup _=>d4 d7
  | .lst _=>d6
  | .dct _ | .raw _ | .xcp _ | .ins _ _ | .at_ _ _=>d6
 | .dct _ | .raw _ | .xcp _ | .ins _ _ | .at_ _ _=>d6
noncomputable def vH (f:D->D->Option Bool):List D->List D->Option Bool
 | x::xs,y::ys=>(f x y).bind λa=>(vH f xs ys).bind λb=>d4 (a&&b)
 | _,_=>d4 d8
noncomputable def eqN:Nat->D->D->Option Bool
 | n+1,.tup xs,.tup ys=>(vH (eqN n) xs ys).map λb=>b&&xs.length == ys.length
 | n+1,.lst xs,.lst ys=>if xs.length=ys.length then vH (eqN n) xs ys else d4 d7
 | _,a,b=>eqS a b
theorem Qk {n:Nat} {a b:D} (h1:∀ xs ys,a=.tup xs->b≠.tup ys) (h2:∀ xs ys,a=.lst xs->b≠.lst ys):eqN n a b=eqS a b:=by
 cases n with
 | zero=>rfl
 | succ n=>
  cases a with
  | tup xs=>cases b with
   | tup ys=>exact absurd rfl (h1 xs ys rfl)
   | _=>rfl
  | lst xs=>cases b with
   | lst ys=>exact absurd rfl (h2 xs ys rfl)
   | _=>rfl
  | _=>rfl
noncomputable def itE (f:D->D->Option Bool) (xs ys:List D) (j:Nat):Bool:=((xs[j]?).bind λx=>(ys[j]?).bind λy=>f x y).getD d7
theorem kr {f:D->D->Option Bool}:∀ {xs ys:List D} {b:Bool},vH f xs ys=d4 b->b=(aZ (min xs.length ys.length)).all (itE f xs ys)
 | [],ys,b,h=>by simp [vH] at h ⊢; exact h
 | x::xs,[],b,h=>by simp [vH] at h ⊢; exact h
 | x::xs,y::ys,b,h=>by
  unfold vH at h;cases e:f x y with
  | none=>rw [e] at h; simp at h
  | some a=>
   cases d:vH f xs ys with
   | none=>rw [e,d] at h; simp at h
   | some c=>
    rw [e,d] at h;have h:(a&&c)=b:=by simpa using h
    have l:=kr d;have m:min (x::xs).length (y::ys).length=min xs.length ys.length+1:=by simp only [aw]; lia
    rw [m,List.range_succ_eq_map,dm,List.all_map];have e0:itE f (x::xs) (y::ys) 0=a:=by simp [itE,e]
    have e1:(itE f (x::xs) (y::ys)) ∘ Nat.succ=itE f xs ys:=by funext j;simp [itE]
    rw [e0,e1,<-l];exact h.symm
theorem Kv {f:D->D->Option Bool}:∀ {xs ys:List D} {b:Bool},vH f xs ys=d4 b->∀ (j:Nat) (x y:D),xs[j]?=d4 x->ys[j]?=d4 y->f x y=d4 (itE f xs ys j)
 | [],ys,b,_,j,x,y,hx,_=>by simp at hx
 | x::xs,[],b,_,j,_,y,_,hy=>by simp at hy
 | x::xs,y::ys,b,h,0,x',y',hx,hy=>by
  simp at hx hy;subst hx hy;unfold vH at h;cases e:f x y with
  | none=>rw [e] at h; simp at h
  | some a=>simp [itE,e]
 | x::xs,y::ys,b,h,j+1,x',y',hx,hy=>by
  unfold vH at h;cases e:f x y with
  | none=>rw [e] at h; simp at h
  | some a=>
   cases d:vH f xs ys with
   | none=>rw [e,d] at h; simp at h
   | some c=>have q:=Kv d j x' y' (by simpa using hx) (by simpa using hy);rw [q];simp [itE]
section
variable {X:Cx} {pins:Pns} {σ:St} {F H:Hp} {s:d9}
noncomputable def smp:D->Bool
 | .non | .bl _ | .int _ | .str _ | .tup _ | .lst _=>d8
 | .dct _ | .raw _ | .xcp _ | .ins _ _ | .at_ _ _=>d7
theorem Kw {n:Nat} {d e:D} {b:Bool} (h:eqN n d e=d4 b):smp d=true:=by cases d <;> first | rfl | (cases n <;> exact nomatch (show d6=d4 b from h))
theorem qba {n:Nat} {d e:D} {b:Bool} (h:eqN n d e=d4 b):smp e=true:=by cases e <;> first | rfl | (cases n <;> cases d <;> exact nomatch (show d6=d4 b from h))
theorem Ky (I:Inv X pins σ H s) (A:Same F H) {a:Addr} {xs ys:List V} (p:SqT X.K F a xs) (q:SqL X.K F a ys):False:=by obtain ⟨_,_,b,_⟩:=I.list (A.seq q);obtain ⟨_,_,d,_⟩:=I.tuple (qO A p);exact absurd rfl (PySem.SeqAt.ne_of_list_tuple b.isList d)
theorem uT {f:D->D->Option Bool} {x y:D} {xs ys:List D} {b:Bool} (h:vH f (x::xs) (y::ys)=d4 b):∃ a c,f x y=d4 a/\vH f xs ys=d4 c/\b=(a&&c):=by
 unfold vH at h;cases e:f x y with
 | none=>rw [e] at h; cases h
 | some a=>
  cases j:vH f xs ys with
  | none=>rw [e,j] at h; cases h
  | some c=>rw [e,j] at h; exact ⟨a,c,rfl,rfl,(ax.inj h).symm⟩
theorem gp {n:Nat} {xs ys:List D} {b:Bool} (h:eqN (n+1) (.tup xs) (.tup ys)=d4 b):∃ c,vH (eqN n) xs ys=d4 c/\b=(c&&xs.length == ys.length):=by
 have h:((vH (eqN n) xs ys).map λb=>b&&xs.length == ys.length)=d4 b:=h;cases e:vH (eqN n) xs ys with
 | none=>rw [e] at h; cases h
 | some c=>rw [e] at h; exact ⟨c,rfl,(ax.inj h).symm⟩
theorem Kz (I:Inv X pins σ H s) (A:Same F H):∀ (n:Nat) {v:V} {d e:D} {b:Bool},Is X.K F v d->Is X.K F v e->eqN n d e=d4 b->b=true:=by
 have base:∀ {n:Nat} {v:V} {d e:D} {b:Bool},Is X.K F v d->Is X.K F v e->eqN n d e=d4 b->(∀ a xs ds es,Is X.K F (.ref a) (.tup ds)->SqT X.K F a xs->IsL X.K F xs ds->IsL X.K F xs es->eqN n (.tup ds) (.tup es)=d4 b->b=d8)->(∀ a xs ds es,SqL X.K F a xs->IsL X.K F xs ds->IsL X.K F xs es->eqN n (.lst ds) (.lst es)=d4 b->b=d8)->b=true:=by
  intro n v d e b h1 h2 h m hl;have s1:=Kw h;have s2:=qba h;cases h1 with
  | non=>cases h2 with
   | non=>cases n <;> exact (ax.inj h).symm
   | raw=>cases s2
  | bl x=>cases h2 with
   | bl=>cases n <;> exact (ax.inj h).symm.trans (beq_self_eq_true x)
   | raw=>cases s2
  | int x=>cases h2 with
   | int=>cases n <;> exact (ax.inj h).symm.trans (beq_self_eq_true x)
   | raw=>cases s2
  | str _=>cases h2 with
   | str _=>cases n <;> exact (ax.inj h).symm.trans (beq_self_eq_true _)
   | raw=>cases s2
  | tup p1 f=>cases h2 with
   | tup p2 t=>have q:=I.tuple_inj (qO A p1) (qO A p2);subst q;exact m _ _ _ _ (.tup p1 f) p1 f t h
   | lst p2 t=>exact (Ky I A p1 p2).elim
   | _=>cases s2
  | lst p1 f=>cases h2 with
   | lst p2 t=>have q:=I.list_inj (A.seq p1) (A.seq p2);subst q;exact hl _ _ _ _ p1 f t h
   | tup p2 t=>exact (Ky I A p2 p1).elim
   | _=>cases s2
  | _=>cases s1
 intro n
 induction n with
 | zero=>exact λ{_ _ _ _} h1 h2 h=>base h1 h2 h (λ_ _ _ _ _ _ _ _ h=>nomatch (show d6=d4 _ from h)) λ_ _ _ _ _ _ _ h=>nomatch (show d6=d4 _ from h)
 | succ n j=>
  have l:∀ {xs:List V} {ds es:List D} {b:Bool},IsL X.K F xs ds->IsL X.K F xs es->vH (eqN n) ds es=d4 b->b=true:=by
   intro xs
   induction xs with
   | nil=>intro ds es b h1 h2 h; cases h1; cases h2; exact (ax.inj h).symm
   | cons x xs i=>
    intro ds es b h1 h2 h;cases h1 with
    | cons o f=>
     cases h2 with
     | cons k t=>obtain ⟨a,c,q,g,rfl⟩:=uT h;rw [j o k q,i f t g];rfl
  intro v d e b h1 h2 h;refine base h1 h2 h (λa xs ds es _ _ f t h=>?_) λa xs ds es _ f t h=>?_;·obtain ⟨c,q,rfl⟩:=gp h;rw [l f t q,f.length.symm.trans t.length,beq_self_eq_true];rfl
  ·have h:(if ds.length=es.length then vH (eqN n) ds es else d4 d7)=d4 _:=h;rw [Aa (f.length.symm.trans t.length)] at h;exact l f t h
end
open PySem.SeqAt
section
variable {X:Cx} {pins:Pns} {σ:St} {F H:Hp} {s:d9}
theorem Vals.getE {xs:List V} {us:List d5} (r:Vals xs us) {j:Nat} (h:j < us.length):∃ x,xs[j]?=d4 x/\RelV x us[j]:=by
 have hl:=r.length;have G:j < xs.length:=by lia
 obtain ⟨u,e1,e⟩:=Vals.get (i:=j) (x:=xs[j]) r (by simp [G]);refine ⟨xs[j],by simp [G],?_⟩;rw [aU h] at e1;cases e1;exact e
theorem vx {A:eZ} {n:Nat} {xs ys:List V} {ds es:List D} {us ws:List d5} {b:Bool} (l:∀ {v w:V} {d e:D} {u t:d5} {b:Bool},Is X.K F v d->Is X.K F w e->RelV v u->RelV w t->eqN n d e=d4 b->EqAt A s u t b)
  (r1:Vals xs us) (r2:Vals ys ws) (i1:IsL X.K F xs ds) (i2:IsL X.K F ys es) (h:vH (eqN n) ds es=d4 b) :
  ∀ j (h1:j < us.toArray.size) (h2:j < ws.toArray.size),EqAt A s us.toArray[j] ws.toArray[j] (itE (eqN n) ds es j):=by
 intro j h1 h2;have c:j < us.length:=by simpa using h1
 have a:j < ws.length:=by simpa using h2
 obtain ⟨x,ex,f⟩:=Vals.getE r1 c;obtain ⟨y,k,r⟩:=Vals.getE r2 a;obtain ⟨d,o,i⟩:=i1.get ex;obtain ⟨e,m,g⟩:=i2.get k;have q:=Kv h j d e o m;simpa using l i g f r q
theorem Ql {A:eZ} {n:Nat} {a c:Addr} {xs ys:List V} {ds es:List D} {b:Bool} (I:Inv X pins σ H s) (j:∀ {v w:V} {d e:D} {u t:d5} {b:Bool},Is X.K F v d->Is X.K F w e->RelV v u->RelV w t->eqN n d e=d4 b->EqAt A.in1 s u t b)
  (p1:SqT X.K H a xs) (p2:SqT X.K H c ys) (i1:IsL X.K F xs ds) (i2:IsL X.K F ys es) (h:eqN (n+1) (.tup ds) (.tup es)=d4 b) (m:A.units < fz):RcAt A s (.ref a) (.ref c) b:=by
 obtain ⟨us,r1,g,_⟩:=I.tuple p1;obtain ⟨ws,r2,f,_⟩:=I.tuple p2;simp only [eqN] at h;cases q:vH (eqN n) ds es with
 | none=>rw [q] at h; simp at h
 | some k=>
  rw [q] at h;have i:us.toArray.size=ds.length:=by rw [ah,<-r1.length,i1.length]
  have l:ws.toArray.size=es.length:=by rw [ah,<-r2.length,i2.length]
  have z:=RcAt.tuples (A:=A) g f m (vx (A:=A.in1) j r1 r2 i1 i2 q);rw [i,l,<-kr q] at z;have e:b=(k&&ds.length == es.length):=by simpa using h.symm
  rw [e]; exact z
theorem Qm {A:eZ} {n:Nat} {a c:Addr} {xs ys:List V} {ds es:List D} {b:Bool} (I:Inv X pins σ H s) (k:∀ {v w:V} {d e:D} {u t:d5} {b:Bool},Is X.K F v d->Is X.K F w e->RelV v u->RelV w t->eqN n d e=d4 b->EqAt A.in1 s u t b)
  (p1:SqL X.K H a xs) (p2:SqL X.K H c ys) (i1:IsL X.K F xs ds) (i2:IsL X.K F ys es) (h:eqN (n+1) (.lst ds) (.lst es)=d4 b) (j:A.units < fz):RcAt A s (.ref a) (.ref c) b:=by
 obtain ⟨us,r1,g,_⟩:=I.list p1;obtain ⟨ws,r2,f,_⟩:=I.list p2;have i:us.toArray.size=ds.length:=by rw [ah,<-r1.length,i1.length]
 have l:ws.toArray.size=es.length:=by rw [ah,<-r2.length,i2.length]
 simp only [eqN] at h;by_cases hl:ds.length=es.length;·rw [Aa hl] at h;have z:=RcAt.lists (A:=A) g.isList f.isList (by lia) j (vx (A:=A.in1) k r1 r2 i1 i2 h);have e:=kr h;rw [i] at z;rw [e,show min ds.length es.length=ds.length by lia];exact z
 ·rw [Ab hl] at h;cases h;exact RcAt.lists_lengths g.isList f.isList (bne_iff_ne.mpr (by rw [i,l]; exact hl)) j
def Kd (s:d9):D->d5->Prop
 | .non,u=>u=.none
 | .bl b,u=>u=.bool b
 | .int i,u=>∃ t,u=.int i t
 | .str x,u=>∃ t,u=.str x t
 | .tup _,u=>∃ a its,u=.ref a/\s.heap.IsTuple a its
 | .lst _,u=>∃ a its,u=.ref a/\s.heap.IsList a its
 | _,_=>True
theorem Jg (I:Inv X pins σ H s) (A:Same F H) {v:V} {d:D} {u:d5} (t:TopIs X.K F H v d) (r:RelV v u):Kd s d u:=by
 cases d with
 | non=>obtain rfl:=t.non; exact r
 | bl=>obtain rfl:=t.bl; exact r
 | int=>obtain rfl:=t.int; exact r
 | str=>obtain ⟨rfl,_⟩:=t.str; exact r
 | tup=>obtain ⟨a,_,rfl,p,_⟩:=t.tup A; obtain ⟨_,_,q,_⟩:=I.tuple p; exact ⟨a,_,r,q⟩
 | lst=>obtain ⟨a,_,rfl,p,_⟩:=t.lst A; obtain ⟨_,_,q,_⟩:=I.list p; exact ⟨a,_,r,q.isList⟩
 | _=>trivial
theorem Gi {A:eZ} {d e:D} {u t:d5} {b:Bool} (f:A.units < fz) (k1:Kd s d u) (k2:Kd s e t) (h:eqS d e=d4 b):EqAt A s u t b:=by
 cases d <;> cases e <;> try (cases h; done)
 all_goals
  cases h;first | obtain ⟨_,_,rfl,a⟩:=k1 | obtain ⟨_,rfl⟩:=k1 | cases k1
  first | obtain ⟨_,_,rfl,q⟩:=k2 | obtain ⟨_,rfl⟩:=k2 | cases k2
  with_reducible first | exact EqAt.same _ | exact EqAt.none_bool _ | exact EqAt.none_int _ _ | exact EqAt.none_str _ _ | exact EqAt.bool_none _ | exact EqAt.bool_bool _ _ | exact EqAt.bool_int _ _ _ | exact EqAt.bool_str _ _ _ | exact EqAt.int_none _ _ | exact EqAt.int_bool _ _ _ | exact EqAt.int_int _ _ _ _ | exact EqAt.int_str _ _ _ _ | exact EqAt.str_none _ _ | exact EqAt.str_bool _ _ _ | exact EqAt.str_int _ _ _ _ | exact EqAt.str_str _ _ _ _ | exact EqAt.none_tuple q f | exact EqAt.tuple_none a f | exact EqAt.none_list q f | exact EqAt.list_none a f | exact EqAt.bool_tuple _ q f | exact EqAt.tuple_bool _ a f | exact EqAt.bool_list _ q f | exact EqAt.list_bool _ a f | exact EqAt.int_tuple _ _ q f | exact EqAt.tuple_int _ _ a f | exact EqAt.int_list _ _ q f | exact EqAt.list_int _ _ a f | exact EqAt.str_tuple _ _ q f | exact EqAt.tuple_str _ _ a f | exact EqAt.str_list _ _ q f | exact EqAt.list_str _ _ a f | exact EqAt.tuple_list a q f | exact EqAt.list_tuple a q f
theorem KA (I:Inv X pins σ H s) (f:Same F H):∀ (n:Nat) {A:eZ} {v w:V} {d e:D} {u t:d5} {b:Bool},A.units+n < fz->Is X.K F v d->Is X.K F w e->RelV v u->RelV w t->eqN n d e=d4 b->EqAt A s u t b:=by
 intro n
 induction n with
 | zero=>exact λB h1 h2 x r h=>Gi (by lia) (Jg I f (.inl h1) x) (Jg I f (.inl h2) r) h
 | succ n p=>
  intro A v w d e u t b B h1 h2 x r h;have j:A.in1.units+n < fz:=by show A.units+1+n < fz; lia
  by_cases both:(∃ xs ys,d=.tup xs/\e=.tup ys)\/(∃ xs ys,d=.lst xs/\e=.lst ys)
  ·rcases both with ⟨ds,es,rfl,rfl⟩ | ⟨ds,es,rfl,rfl⟩
   ·have i:=h1;have g:=h2;cases h1 with
    | tup p1 m=>
     cases h2 with
     | tup p2 l=>
      rename_i a xs c ys;cases x;cases r;by_cases ne:a=c;·subst ne;rw [Kz I f (n+1) i g h];exact EqAt.same _
      ·exact EqAt.of_refs ne (Ql I (λo k z y q=>p j o k z y q) (qO f p1) (qO f p2) m l h (by lia))
   ·have i:=h1;have g:=h2;cases h1 with
    | lst p1 m=>
     cases h2 with
     | lst p2 l=>
      rename_i a xs c ys;cases x;cases r;by_cases ne:a=c;·subst ne;rw [Kz I f (n+1) i g h];exact EqAt.same _
      ·exact EqAt.of_refs ne (Qm I (λo k z y q=>p j o k z y q) (f.seq p1) (f.seq p2) m l h (by lia))
  ·have e1:eqN (n+1) d e=eqS d e:=Qk (λxs ys o k=>both (.inl ⟨xs,ys,o,k⟩)) (λxs ys o k=>both (.inr ⟨xs,ys,o,k⟩));have C:eqN n d e=eqS d e:=Qk (λxs ys o k=>both (.inl ⟨xs,ys,o,k⟩)) (λxs ys o k=>both (.inr ⟨xs,ys,o,k⟩));exact p (by lia) h1 h2 x r (by rw [C,<-e1]; exact h)
end
end L2.D2
namespace L2.D2
open PySem PySem.Spec PyProof.Rows
open PySem.SeqAt
variable {X:Cx} {A:eZ} {n:Nat} {b:Bool}
section
variable {pins:Pns} {σ:St} {F H:Hp} {s:d9}
theorem WP {a c:Addr} {xs ys:List V} {ds es:List D} (I:Inv X pins σ H s) (j:∀ {v w:V} {d e:D} {u t:d5} {b:Bool},Is X.K F v d->Is X.K F w e->RelV v u->RelV w t->eqN n d e=d4 b->EqAt A.in1 s u t b)
  (p1:SqT X.K H a xs) (p2:SqT X.K H c ys) (i1:IsL X.K F xs ds) (i2:IsL X.K F ys es) (h:eqN (n+1) (.tup ds) (.tup es)=d4 b) (m:A.units < fz):RcNeAt A s (.ref a) (.ref c) (!b):=by
 obtain ⟨us,r1,g,_⟩:=I.tuple p1;obtain ⟨ws,r2,f,_⟩:=I.tuple p2;simp only [eqN] at h;cases q:vH (eqN n) ds es with
 | none=>rw [q] at h; simp at h
 | some k=>
  rw [q] at h;have i:us.toArray.size=ds.length:=by rw [ah,<-r1.length,i1.length]
  have l:ws.toArray.size=es.length:=by rw [ah,<-r2.length,i2.length]
  have z:=RcNeAt.tuples (A:=A) g f m (vx (A:=A.in1) j r1 r2 i1 i2 q);rw [i,l,<-kr q] at z;have e:b=(k&&ds.length == es.length):=by simpa using h.symm
  rw [e]; exact z
theorem WQ {a c:Addr} {xs ys:List V} {ds es:List D} (I:Inv X pins σ H s) (k:∀ {v w:V} {d e:D} {u t:d5} {b:Bool},Is X.K F v d->Is X.K F w e->RelV v u->RelV w t->eqN n d e=d4 b->EqAt A.in1 s u t b)
  (p1:SqL X.K H a xs) (p2:SqL X.K H c ys) (i1:IsL X.K F xs ds) (i2:IsL X.K F ys es) (h:eqN (n+1) (.lst ds) (.lst es)=d4 b) (j:A.units < fz):RcNeAt A s (.ref a) (.ref c) (!b):=by
 obtain ⟨us,r1,g,_⟩:=I.list p1;obtain ⟨ws,r2,f,_⟩:=I.list p2;have i:us.toArray.size=ds.length:=by rw [ah,<-r1.length,i1.length]
 have l:ws.toArray.size=es.length:=by rw [ah,<-r2.length,i2.length]
 simp only [eqN] at h;by_cases hl:ds.length=es.length;·rw [Aa hl] at h;have z:=RcNeAt.lists (A:=A) g.isList f.isList (by lia) j (vx (A:=A.in1) k r1 r2 i1 i2 h);have e:=kr h;rw [i] at z;rw [e,show min ds.length es.length=ds.length by lia];exact z
 ·rw [Ab hl] at h;cases h;exact RcNeAt.lists_lengths g.isList f.isList (bne_iff_ne.mpr (by rw [i,l]; exact hl)) j
theorem Gj (I:Inv X pins σ H s) (i:Same F H) {v w:V} {d e:D} {u t:d5} (m:A.units+n+1 < fz) (k:TopIs X.K F H v d) (j:TopIs X.K F H w e) (x:RelV v u) (r:RelV w t) (h:eqN (n+1) d e=d4 b):RcAt A s u t b:=by
 have f:A.units < fz:=by lia
 have l:∀ {v w:V} {d e:D} {u t:d5} {b:Bool},Is X.K F v d->Is X.K F w e->RelV v u->RelV w t->eqN n d e=d4 b->EqAt A.in1 s u t b:=λB p z y o=>KA I i n (by show A.units+1+n < fz; lia) B p z y o;have k1:=Jg I i k x;have k2:=Jg I i j r;cases d <;> cases e <;> try (cases h; done)
 case tup.tup=>
  obtain ⟨a,xs,rfl,p1,i1⟩:=k.tup i; obtain ⟨c,ys,rfl,p2,i2⟩:=j.tup i; cases x; cases r;exact Ql I l p1 p2 i1 i2 h f
 case lst.lst=>
  obtain ⟨a,xs,rfl,p1,i1⟩:=k.lst i; obtain ⟨c,ys,rfl,p2,i2⟩:=j.lst i; cases x; cases r;exact Qm I l p1 p2 i1 i2 h f
 all_goals
  cases h;clear x r k j;first | obtain ⟨_,_,rfl,g⟩:=k1 | obtain ⟨_,rfl⟩:=k1 | cases k1
  first | obtain ⟨_,_,rfl,q⟩:=k2 | obtain ⟨_,rfl⟩:=k2 | cases k2
  with_reducible first | exact RcAt.none_none | exact RcAt.none_bool _ | exact RcAt.none_int _ _ | exact RcAt.none_str _ _ | exact RcAt.bool_none _ | exact RcAt.bool_bool _ _ | exact RcAt.bool_int _ _ _ | exact RcAt.bool_str _ _ _ | exact RcAt.int_none _ _ | exact RcAt.int_bool _ _ _ | exact RcAt.int_int _ _ _ _ | exact RcAt.int_str _ _ _ _ | exact RcAt.str_none _ _ | exact RcAt.str_bool _ _ _ | exact RcAt.str_int _ _ _ _ | exact RcAt.str_str _ _ _ _ | exact RcAt.none_tuple q f | exact RcAt.tuple_none g f | exact RcAt.none_list q f | exact RcAt.list_none g f | exact RcAt.bool_tuple _ q f | exact RcAt.tuple_bool _ g f | exact RcAt.bool_list _ q f | exact RcAt.list_bool _ g f | exact RcAt.int_tuple _ _ q f | exact RcAt.tuple_int _ _ g f | exact RcAt.int_list _ _ q f | exact RcAt.list_int _ _ g f | exact RcAt.str_tuple _ _ q f | exact RcAt.tuple_str _ _ g f | exact RcAt.str_list _ _ q f | exact RcAt.list_str _ _ g f | exact RcAt.tuple_list g q f | exact RcAt.list_tuple g q f
theorem Gk (I:Inv X pins σ H s) (i:Same F H) {v w:V} {d e:D} {u t:d5} (m:A.units+n+1 < fz) (k:TopIs X.K F H v d) (j:TopIs X.K F H w e) (x:RelV v u) (r:RelV w t) (h:eqN (n+1) d e=d4 b):RcNeAt A s u t (!b):=by
 have f:A.units < fz:=by lia
 have l:∀ {v w:V} {d e:D} {u t:d5} {b:Bool},Is X.K F v d->Is X.K F w e->RelV v u->RelV w t->eqN n d e=d4 b->EqAt A.in1 s u t b:=λB p z y o=>KA I i n (by show A.units+1+n < fz; lia) B p z y o;have k1:=Jg I i k x;have k2:=Jg I i j r;cases d <;> cases e <;> try (cases h; done)
 case tup.tup=>
  obtain ⟨a,xs,rfl,p1,i1⟩:=k.tup i; obtain ⟨c,ys,rfl,p2,i2⟩:=j.tup i; cases x; cases r;exact WP I l p1 p2 i1 i2 h f
 case lst.lst=>
  obtain ⟨a,xs,rfl,p1,i1⟩:=k.lst i; obtain ⟨c,ys,rfl,p2,i2⟩:=j.lst i; cases x; cases r;exact WQ I l p1 p2 i1 i2 h f
 all_goals
  cases h;clear x r k j;first | obtain ⟨_,_,rfl,g⟩:=k1 | obtain ⟨_,rfl⟩:=k1 | cases k1
  first | obtain ⟨_,_,rfl,q⟩:=k2 | obtain ⟨_,rfl⟩:=k2 | cases k2
  try simp only [Bool.not_true,Bool.not_false]
  with_reducible first | exact RcNeAt.none_none | exact RcNeAt.none_bool _ | exact RcNeAt.none_int _ _ | exact RcNeAt.none_str _ _ | exact RcNeAt.bool_none _ | exact RcNeAt.bool_bool _ _ | exact RcNeAt.bool_int _ _ _ | exact RcNeAt.bool_str _ _ _ | exact RcNeAt.int_none _ _ | exact RcNeAt.int_bool _ _ _ | exact RcNeAt.int_int _ _ _ _ | exact RcNeAt.int_str _ _ _ _ | exact RcNeAt.str_none _ _ | exact RcNeAt.str_bool _ _ _ | exact RcNeAt.str_int _ _ _ _ | exact RcNeAt.str_str _ _ _ _ | exact RcNeAt.none_tuple q f | exact RcNeAt.tuple_none g f | exact RcNeAt.none_list q f | exact RcNeAt.list_none g f | exact RcNeAt.bool_tuple _ q f | exact RcNeAt.tuple_bool _ g f | exact RcNeAt.bool_list _ q f | exact RcNeAt.list_bool _ g f | exact RcNeAt.int_tuple _ _ q f | exact RcNeAt.tuple_int _ _ g f | exact RcNeAt.int_list _ _ q f | exact RcNeAt.list_int _ _ g f | exact RcNeAt.str_tuple _ _ q f | exact RcNeAt.tuple_str _ _ g f | exact RcNeAt.str_list _ _ q f | exact RcNeAt.list_str _ _ g f | exact RcNeAt.tuple_list g q f | exact RcNeAt.list_tuple g q f | with_unfolding_all first | exact RcNeAt.bool_bool _ _ | exact RcNeAt.bool_int _ _ _ | exact RcNeAt.int_bool _ _ _ | exact RcNeAt.int_int _ _ _ _ | exact RcNeAt.str_str _ _ _ _
end
noncomputable def eqD (a b:D):Out D:=match eqN 8 a b with
 | some c=>.ok (.bl c)
 | none=>.bad
noncomputable def neD (a b:D):Out D:=match eqN 8 a b with
 | some c=>.ok (.bl (!c))
 | none=>.bad
section
variable {C:Ct}
theorem ze (a:C.K=X.K) (g:X.A.units+64 < fz):OpD X C .sh (eJ .Eq) eqD:=by
 intro pins s σ H x y v u Q I d r h;obtain ⟨F,dx,f,b,t,ty,po⟩:=h;rw [a] at t ty;unfold eqD at po;cases e:eqN 8 dx f with
 | none=>rw [e] at po; exact po.elim
 | some c=>rw [e] at po;exact Gj I b (n:=7) (by lia) t ty d r e _ _ _ _ ⟨.bl c,H,I,rfl,po _ F H b .refl (.bl _)⟩
theorem KB (a:C.K=X.K) (g:X.A.units+64 < fz):OpD X C .sh (eJ .NotEq) neD:=by
 intro pins s σ H x y v u Q I d r h;obtain ⟨F,dx,f,b,t,ty,po⟩:=h;rw [a] at t ty;unfold neD at po;cases e:eqN 8 dx f with
 | none=>rw [e] at po; exact po.elim
 | some c=>rw [e] at po;exact Gk I b (n:=7) (by lia) t ty d r e _ _ _ _ ⟨.bl _,H,I,rfl,po _ F H b .refl (.bl _)⟩
end
end L2.D2
namespace L2.D2
open PySem PySem.Spec PyProof.Rows
open PySem.SeqAt
variable {X:Cx} {pins:Pns} {σ:St} {F H:Hp} {s:d9} {n:Nat} {v:V} {d e:D} {b:Bool}
section
theorem Xb (I:Inv X pins σ H s) (A:Same F H):∀ (n:Nat) {v:V} {d d' e:D} {b g:Bool},Is X.K F v d->Is X.K F v d'->eqN n d e=d4 b->eqN n d' e=d4 g->b=g:=by
 intro n
 induction n with
 | zero=>
  intro v d d' e b g h1 h2 e1 j;have s1:=Kw e1;have s2:=Kw j;cases h1 <;> cases h2 <;> first
   | exact ax.inj (e1.symm.trans j)
   | (cases s1; done)
   | (cases s2; done)
   | exact (Ky I A (by assumption) (by assumption)).elim
   | exact ax.inj (e1.symm.trans (Eq.trans (by cases e <;> rfl) j))
 | succ n p=>
  have l:∀ {xs:List V} {ds f es:List D} {b g:Bool},IsL X.K F xs ds->IsL X.K F xs f->vH (eqN n) ds es=d4 b->vH (eqN n) f es=d4 g->b=g:=by
   intro xs
   induction xs with
   | nil=>intro ds f es b g h1 h2 e1 j; cases h1; cases h2; exact ax.inj (e1.symm.trans j)
   | cons x xs m=>
    intro ds f es b g h1 h2 e1 j;cases h1 with
    | cons u h=>
     cases h2 with
     | cons r t=>
      cases es with
      | nil=>exact ax.inj (e1.symm.trans j)
      | cons e es=>obtain ⟨a,c,q,o,rfl⟩:=uT e1;obtain ⟨w,U,k,i,rfl⟩:=uT j;rw [p u r q k,m h t o i]
  intro v d d' e b g h1 h2 e1 j;have s1:=Kw e1;have s2:=Kw j;cases h1 with
  | tup p1 h=>
   cases h2 with
   | tup p2 t=>
    have q:=I.tuple_inj (qO A p1) (qO A p2);subst q;have hl:=h.length.symm.trans t.length;cases e with
    | tup es=>obtain ⟨c,q,rfl⟩:=gp e1;obtain ⟨U,k,rfl⟩:=gp j;rw [l h t q k,hl]
    | _=>exact ax.inj (e1.symm.trans j)
   | lst p2 t=>exact (Ky I A p1 p2).elim
   | _=>cases s2
  | lst p1 h=>
   cases h2 with
   | lst p2 t=>
    have q:=I.list_inj (A.seq p1) (A.seq p2);subst q;have hl:=h.length.symm.trans t.length;cases e with
    | lst es=>
     have e1:(if _=es.length then vH (eqN n) _ es else d4 d7)=d4 b:=e1;have j:(if _=es.length then vH (eqN n) _ es else d4 d7)=d4 g:=j;rw [hl] at e1;split at j;·rw [Aa (by assumption)] at e1; exact l h t e1 j
     ·rw [Ab (by assumption)] at e1; exact ax.inj (e1.symm.trans j)
    | _=>exact ax.inj (e1.symm.trans j)
   | tup p2 t=>exact (Ky I A p2 p1).elim
   | _=>cases s2
  | _=>cases h2 <;> first
   | exact ax.inj (e1.symm.trans j)
   | (cases s1; done)
   | (cases s2; done)
open Classical in
noncomputable def Wr (X:Cx) (F:Hp) (n:Nat) (e:D) (u:d5):Bool:=decide (∃ v d,Is X.K F v d/\RelV v u/\eqN n d e=d4 d8)
open Classical in
theorem KC (I:Inv X pins σ H s) (A:Same F H) {u:d5} (h:Is X.K F v d) (r:RelV v u) (q:eqN n d e=d4 b):Wr X F n e u=b:=by
 unfold Wr;cases b with
 | true=>exact decide_eq_true ⟨v,d,h,r,q⟩
 | false=>refine Ac ?_;rintro ⟨w,d',h',r',g⟩;have e:=r.inj r';subst e;exact absurd (Xb I A n h h' q g) (by decide)
noncomputable def zf (n:Nat) (e:D):List D->Option Bool
 | []=>d4 d7
 | d::ds=>(eqN n d e).bind λa=>(zf n e ds).bind λb=>d4 (a||b)
theorem zg {ds:List D} (h:zf n e (d::ds)=d4 b):∃ a c,eqN n d e=d4 a/\zf n e ds=d4 c/\b=(a||c):=by
 unfold zf at h;cases q:eqN n d e with
 | none=>rw [q] at h; simp at h
 | some a=>
  cases f:zf n e ds with
  | none=>rw [q,f] at h; simp at h
  | some c=>rw [q,f] at h; exact ⟨a,c,rfl,rfl,(ax.inj h).symm⟩
theorem KG (I:Inv X pins σ H s) (A:Same F H):∀ {vs:List V} {ds:List D} {us:List d5} {b:Bool},IsL X.K F vs ds->Vals vs us->zf n e ds=d4 b->us.any (Wr X F n e)=b/\∀ u∈us,∃ v d a,Is X.K F v d/\RelV v u/\eqN n d e=d4 a/\Wr X F n e u=a
 | _,_,_,b,.nil,.nil,h=>⟨by simpa using (ax.inj h),λu f=>nomatch f⟩
 | _,_,_,b,.cons i t,.cons r rs,h=>by
  obtain ⟨a,c,q,k,rfl⟩:=zg h;obtain ⟨j,g⟩:=KG I A t rs k;have e1:=KC I A i r q;refine ⟨by rw [dk,e1,j],λu f=>?_⟩;rcases aa.mp f with rfl | f;·exact ⟨_,_,a,i,r,q,e1⟩
  ·exact g u f
end
noncomputable def inD (x y:D):Out Bool:=match y with
 | .lst ds=>match zf 7 x ds with
  | some b=>.ok b
  | none=>.bad
 | .tup ds=>match zf 7 x ds with
  | some b=>.ok b
  | none=>.bad
 | _=>.bad
noncomputable def Jh (x y:D):Out D:=(inD x y).bind λb=>.ok (.bl (!b))
theorem TopIs.is {K:Frag} (s:Same F H) (h:TopIs K F H v d):∃ F',Same F F'/\Same F' H/\Is K F' v d:=by
 rcases h with h | ⟨a,rfl,o⟩
 ·exact ⟨F,Same.refl _,s,h⟩
 ·obtain ⟨u,hu⟩:∃ u,H a=d4 u:=by
   cases q:H a with
   | none=>exact absurd q o.there
   | some u=>exact ⟨u,rfl⟩
  by_cases E:F a=d6
  ·have gr:Same F (upd F a u):=λb w e=>by rw [qu (qx e E)]; exact e
   refine ⟨upd F a u,gr,λb w e=>?_,?_⟩
   ·by_cases q:b=a;·subst q; rw [ql] at e; cases e; exact hu
    ·rw [qu q] at e; exact s b w e
   ·cases d with
    | lst ds=>obtain ⟨xs,e,t⟩:=o; rw [hu] at e; cases e; exact .lst (.inl (.inl ql)) (t.mono gr)
    | dct ds=>obtain ⟨xs,e,t⟩:=o; rw [hu] at e; cases e; exact .dct ql (t.mono gr)
    | ins C fs=>obtain ⟨dx,xs,e,t⟩:=o; rw [hu] at e; cases e; exact .ins ql (t.mono gr)
    | at_ b ds=>obtain ⟨J,xs,e,t⟩:=o; rw [hu] at e; cases e; subst J; exact .at_ (.inl (.inl ql)) (t.mono gr)
    | _=>exact o.elim
  ·obtain ⟨w,hw⟩:∃ w,F a=d4 w:=by
    cases q:F a with
    | none=>exact absurd q E
    | some w=>exact ⟨w,rfl⟩
   have e:=s a w hw;cases d with
   | lst ds=>obtain ⟨xs,c,t⟩:=o; rw [c] at e; cases e; exact ⟨F,Same.refl _,s,.lst (.inl (.inl hw)) t⟩
   | dct ds=>obtain ⟨xs,c,t⟩:=o; rw [c] at e; cases e; exact ⟨F,Same.refl _,s,.dct hw t⟩
   | ins C fs=>obtain ⟨dx,xs,c,t⟩:=o; rw [c] at e; cases e; exact ⟨F,Same.refl _,s,.ins hw t⟩
   | at_ b ds=>obtain ⟨J,xs,c,t⟩:=o; rw [c] at e; cases e; subst J; exact ⟨F,Same.refl _,s,.at_ (.inl (.inl hw)) t⟩
   | _=>exact o.elim
section
variable {C:Ct}
theorem KH {A:eZ} {y x:V} {dx:D} {ds:List D} {b:Bool} {u v:d5} {a:Addr} {us:List d5} {xs:List V} (I:Inv X pins σ H s) (l:A.units+64 < fz) (c:Same F H) (ix:Is X.K F x dx) (f:RelV x v)
  (i:IsL X.K F xs ds) (r:Vals xs us) (h:zf 7 dx ds=d4 b):us.any (Wr X F 7 dx)=b/\∀ w,w∈us.toArray->EqAt A.in1 s w v (Wr X F 7 dx w):=by
 obtain ⟨h1,h2⟩:=KG I c i r h;refine ⟨h1,λw g=>?_⟩;obtain ⟨j,d,k,i1,r1,q,e⟩:=h2 w (by simpa using g);rw [e];exact KA I c 7 (by show A.units+1+7 < fz; lia) i1 ix r1 f q
theorem WR (n:C.K=X.K) (j:X.A.units+64 < fz):OpD X C .sh (eJ .NotIn) Jh:=by
 intro pins s σ H x y v u Q I g f h;obtain ⟨F,dx,k,d,t,ty,po⟩:=h;rw [n] at t ty;unfold Jh inD at po;obtain ⟨F',g',c,ix⟩:=t.is d;cases k with
 | lst ds=>
  cases e:zf 7 dx ds with
  | none=>simp only [e] at po; exact po.elim
  | some b=>simp only [e] at po;obtain ⟨a,xs,rfl,p,i⟩:=ty.lst d;cases f;obtain ⟨us,r,pl,_⟩:=I.list p;obtain ⟨h1,h2⟩:=KH (A:=X.A) (y:=.non) (a:=a) (u:=.none) I j c ix g (i.mono g') r e;refine notIn_listAt (Wr X F' 7 dx) pl.isList h2 ⟨.bl (!b),H,I,by show _=_; rw [<-h1]; simp,po _ F H d .refl (.bl _)⟩
 | tup ds=>
  cases e:zf 7 dx ds with
  | none=>simp only [e] at po; exact po.elim
  | some b=>simp only [e] at po;obtain ⟨a,xs,rfl,p,i⟩:=ty.tup d;cases f;obtain ⟨us,r,pl,_⟩:=I.tuple p;obtain ⟨h1,h2⟩:=KH (A:=X.A) (y:=.non) (a:=a) (u:=.none) I j c ix g (i.mono g') r e;refine notIn_tupleAt (Wr X F' 7 dx) pl h2 ⟨.bl (!b),H,I,by show _=_; rw [<-h1]; simp,po _ F H d .refl (.bl _)⟩
 | _=>exact po.elim
end
end L2.D2
namespace L2.D2
open PySem PySem.Spec PyProof.Rows
def PoT (C:Ct) (own:List Nat) (σ:St) (F H:Hp) (r:Out (Bool×Sl)) (Q:Bool->Hp->Prop):Prop:=match r with
 | .ok (b,ρ')=>∀ F' H',Rep C.K own F' H' σ ρ'->Chg (OA own σ) F H F' H'->Q b H'
 | .exc c ρ'=>∀ F' H',Same F' H'->JK C.K C.ox F' H' σ ρ'->Chg (OA own σ) F H F' H'->C.E (C.cv c) d6 H'
 | .bad=>False
abbrev uE:=Sl->Out (Bool×Sl)
def tT (C:Ct) (own:List Nat) (f:uE):TT:=λσ H Q=>∃ F ρ,Rep C.K own F H σ ρ/\PoT C own σ F H (f ρ) Q
variable {C:Ct} {own:List Nat} {σ:St} {F H F1 H1:Hp} {Q:Bool->Hp->Prop}
theorem PoT.shift {r:Out (Bool×Sl)} (h:PoT C own σ F H r Q) (c:Chg (OA own σ) F H F1 H1):PoT C own σ F1 H1 r Q:=by
 cases r with
 | ok p=>exact λF' H' a U=>h F' H' a (c.trans' U)
 | exc x=>exact λF' H' s io U=>h F' H' s io (c.trans' U)
 | bad=>exact h.elim
theorem PoT.bindV {ma:Mo} {o:za} {k:D×Sl->Out (Bool×Sl)} {R:VK} (hp:PoT C own σ F H (o.bind k) Q)
  (h:∀ v F1 H1 d ρ1,Rep C.K own F1 H1 σ ρ1->Chg (OA own σ) F H F1 H1->MoIs C.K ma H F1 H1 v d->PoT C own σ F1 H1 (k (d,ρ1)) Q->R v H1):Po C own ma σ F H o R:=by
 cases o with
 | ok p=>obtain ⟨d,ρ1⟩:=p;exact λv F1 H1 a c mo=>h v F1 H1 d ρ1 a c mo (PoT.shift (show PoT C own σ F H (k (d,ρ1)) Q from hp) c)
 | exc x=>exact hp
 | bad=>exact hp.elim
variable {o:Out (Bool×Sl)}
theorem PoT.bindT {k:Bool×Sl->Out (Bool×Sl)} {R:Bool->Hp->Prop} (hp:PoT C own σ F H (o.bind k) Q)
  (h:∀ F1 H1 b ρ1,Rep C.K own F1 H1 σ ρ1->Chg (OA own σ) F H F1 H1->PoT C own σ F1 H1 (k (b,ρ1)) Q->R b H1):PoT C own σ F H o R:=by
 cases o with
 | ok p=>obtain ⟨d,ρ1⟩:=p;exact λF1 H1 a c=>h F1 H1 d ρ1 a c (PoT.shift (show PoT C own σ F H (k (d,ρ1)) Q from hp) c)
 | exc x=>exact hp
 | bad=>exact hp.elim
variable {m:Mo}
theorem Po.bindT {k:Bool×Sl->za} {Q:VK} {R:Bool->Hp->Prop} (hp:Po C own m σ F H (o.bind k) Q)
  (h:∀ F1 H1 b ρ1,Rep C.K own F1 H1 σ ρ1->Chg (OA own σ) F H F1 H1->Po C own m σ F1 H1 (k (b,ρ1)) Q->R b H1):PoT C own σ F H o R:=by
 cases o with
 | ok p=>obtain ⟨d,ρ1⟩:=p;exact λF1 H1 a c=>h F1 H1 d ρ1 a c (Po.shift (show Po C own m σ F H (k (d,ρ1)) Q from hp) c)
 | exc x=>exact hp
 | bad=>exact hp.elim
noncomputable def JL:D->Out Bool
 | .non=>.ok d7
 | .bl b=>.ok b
 | .int i=>.ok (i != 0)
 | .str x=>.ok ((x.length:Int) != 0)
 | .tup xs=>.ok (!xs.isEmpty)
 | .lst xs=>.ok (!xs.isEmpty)
 | .dct xs=>.ok (!xs.isEmpty)
 | .raw _=>.bad
 | .xcp _=>.bad
 | .ins _ _=>.bad
 | .at_ _ _=>.bad
noncomputable def yF (f:qM):uE:=λρ=>(f ρ).bind λp=>(JL p.1).bind λb=>.ok (b,p.2)
variable {K:Frag} {vs:List V} {ds:List D}
theorem IsL.isEmpty (h:IsL K F vs ds):vs.isEmpty=ds.isEmpty:=by cases h <;> rfl
theorem IsK.isEmpty {vs:List (Key×V)} {ds:List (Key×D)} (h:IsK K F vs ds):vs.isEmpty=ds.isEmpty:=by cases h <;> rfl
variable {v:V} {d:D}
theorem Xc {b:Bool} (s:Same F H) (h:TopIs K F H v d) (e:JL d=.ok b):qa0 K v H b:=by
 cases d with
 | non=>obtain rfl:=h.non; cases e; rfl
 | bl x=>obtain rfl:=h.bl; cases e; rfl
 | int x=>obtain rfl:=h.int; cases e; rfl
 | str x=>obtain ⟨rfl,q⟩:=h.str; cases e; exact ⟨q,rfl⟩
 | tup x=>obtain ⟨a,xs,rfl,p,t⟩:=h.tup s; cases e; exact .inr (.inl ⟨xs,p,by rw [t.isEmpty]⟩)
 | lst x=>obtain ⟨a,xs,rfl,p,t⟩:=h.lst s; cases e; exact .inl ⟨xs,p,by rw [t.isEmpty]⟩
 | dct x=>obtain ⟨a,xs,rfl,p,t⟩:=h.dct s; cases e; exact .inr (.inr ⟨xs,p,by rw [t.isEmpty]⟩)
 | raw x=>cases e
 | xcp x=>cases e
 | ins x y=>cases e
 | at_ x y=>cases e
noncomputable def jp (f:qM):uE:=λρ=>(f ρ).bind λp=>match p.1 with
 | .bl b=>.ok (b,p.2)
 | _=>.bad
variable {X:Cx} {c e:Expr} {ma mb:Mo} {pos:Pos} {op op':CmpOp} {g g':D->D->Out D} {ρ:Sl}
section
variable {a b:Expr} {f fa fb fc:qM} {ft fu:uE} {mc:Mo} {rest:List Expr}
theorem Xd (n:C.K=X.K) (h:PE X e (tE C own m f)) (i:∀ whole,isTrue e X.env whole=(do let v <-whole; standAt e.pos; holding [v] (truthy v))):PT X e (tT C own (yF f)):=by
 refine WM (WC h i) λσ H Q ⟨F,ρ,r,h⟩=>⟨F,ρ,r,PoT.bindV h λv F1 H1 d ρ1 a l c h1=>?_⟩
 cases q:JL d with
 | ok k=>have h1:PoT C own σ F1 H1 ((JL d).bind λb=>.ok (b,ρ1)) Q:=h1;rw [q] at h1;exact ⟨k,by rw [<-n]; exact Xc a.sub c.top q,h1 F1 H1 a .refl⟩
 | exc x=>have h1:PoT C own σ F1 H1 ((JL d).bind λb=>.ok (b,ρ1)) Q:=h1;cases d <;> cases q
 | bad=>have h1:PoT C own σ F1 H1 ((JL d).bind λb=>.ok (b,ρ1)) Q:=h1;rw [q] at h1;exact h1.elim
theorem KI (h:tT C own (jp f) σ H Q):tE C own .sh f σ H λx H'=>∃ k,x=.bl k/\Q k H':=by
 obtain ⟨F,ρ,r,h⟩:=h;refine ⟨F,ρ,r,PoT.bindV h λv F1 H1 d ρ1 a l c h1=>?_⟩;cases d with
 | bl k=>have c:Is C.K F1 v (.bl k):=c;cases c;exact ⟨k,rfl,h1 F1 H1 a .refl⟩
 | _=>exact h1.elim
theorem jc (s:OpD X C .sh (eJ op) g) (c:PE X a (tE C own ma fa)) (d:PE X b (tE C own mb fb)) (f:ma≠.any:=by decide)
  (k:fO op b=false:=by first | exact Yk _ | with_unfolding_all rfl):PT X (.Compare a [op] [b] pos) (tT C own (jp (d2 g fa fb))):=by
 refine WM (YH s c d k) λσ H Q h=>?_;exact zb f (KI h)
noncomputable def yt (ft:uE):uE:=λρ=>(ft ρ).bind λp=>.ok (!p.1,p.2)
theorem qV (h:PT X a (tT C own ft)):PT X (.UnaryOp .Not a pos) (tT C own (yt ft)):=by refine WM (ZJ h) λσ H Q ⟨F,ρ,p,h⟩=>⟨F,ρ,p,PoT.bindT h λF1 H1 b ρ1 r l h1=>h1 F1 H1 r .refl⟩
theorem qbb {e:Expr} {t t':TT} (h:PW X e t) (i:∀ σ H Q,t' σ H Q->t σ H Q):PW X e t':=⟨λw pins s σ H Q I a=>h w pins s σ H Q I (i σ H Q a)⟩
noncomputable def qcu (ft fu:uE):uE:=λρ=>(ft ρ).bind λp=>if p.1=d8 then fu p.2 else .ok (d7,p.2)
noncomputable def dOr (ft fu:uE):uE:=λρ=>(ft ρ).bind λp=>if p.1=d8 then .ok (d8,p.2) else fu p.2
theorem kU {op} (h:PT X a (tT C own ft)):PW X (.BoolOp op [a] pos) (tT C own ft):=by
 cases op;·exact YB h
 ·exact ZI h
theorem wg (g:PT X a (tT C own ft)) (d:PW X (.BoolOp .Or (b::rest) pos) (tT C own fu)):PW X (.BoolOp .Or (a::b::rest) pos) (tT C own (dOr ft fu)):=by
 refine qbb (qaN g d) λσ H Q ⟨F,ρ,p,h⟩=>⟨F,ρ,p,PoT.bindT h λF1 H1 k ρ1 r l h1=>?_⟩
 cases k with
 | true=>exact h1 F1 H1 r .refl
 | false=>exact ⟨F1,ρ1,r,h1⟩
noncomputable def Ji (fa fb:qM):qM:=λρ=>(fa ρ).bind λp=>match p.1 with
 | .bl d8=>fb p.2
 | .bl d7=>.ok (.bl d7,p.2)
 | _=>.bad
noncomputable def qbT (fa fb:qM):qM:=λρ=>(fa ρ).bind λp=>match p.1 with
 | .bl d8=>.ok (.bl d8,p.2)
 | .bl d7=>fb p.2
 | _=>.bad
theorem Yn {op} (h:PE X a (tE C own m f)):PE X (.BoolOp op [a] pos) (tE C own m f):=ZK h
theorem KJ (g:PE X a (tE C own .sh fa)) (e:PE X (.BoolOp .And (b::rest) pos) (tE C own .sh fb)):PE X (.BoolOp .And (a::b::rest) pos) (tE C own .sh (Ji fa fb)):=by
 refine jd (ZL g e) λσ H Q ⟨F,ρ,p,h⟩=>⟨F,ρ,p,Po.bind h λv F1 H1 d ρ1 r l c h1=>?_⟩
 cases d with
 | bl k=>
  have c:Is C.K F1 v (.bl k):=c;cases c;refine ⟨k,rfl,?_⟩;cases k with
  | true=>exact ⟨F1,ρ1,r,h1⟩
  | false=>exact h1 _ F1 H1 r .refl (.bl _)
 | _=>exact h1.elim
noncomputable def dIf (ft:uE) (fa fb:qM):qM:=λρ=>(ft ρ).bind λp=>if p.1=d8 then fa p.2 else fb p.2
theorem Gm {t:Expr} (m:PT X t (tT C own ft)) (g:PE X a (tE C own ma fa)) (d:PE X b (tE C own mb fb)) (h1:ma≠.any:=by decide) (h2:mb≠.any:=by decide):PE X (.IfExp t a b pos) (tE C own .sh (dIf ft fa fb)):=by
 refine jd (Ww m (uR g h1) (uR d h2)) λσ H Q ⟨F,ρ,p,h⟩=>⟨F,ρ,p,Po.bindT h λF1 H1 k ρ1 r l h1=>?_⟩
 cases k with
 | true=>exact ⟨F1,ρ1,r,h1⟩
 | false=>exact ⟨F1,ρ1,r,h1⟩
noncomputable def jN (g g':D->D->Out D) (fa fb fc:qM):qM:=λρ=>(fa ρ).bind λp=>(fb p.2).bind λq=>(g p.1 q.1).plain.bind λz=>match z with
 | .bl d8=>(fc q.2).bind λr=>(g' q.1 r.1).plain.bind λd=>.ok (d,r.2)
 | .bl d7=>.ok (.bl d7,q.2)
 | _=>.bad
theorem PoV.bind {o:Out D} {k:D->za} {Q R:VK} (a:Rep C.K own F H σ ρ) (h:Po C own m σ F H (o.plain.bind k) Q)
  (b:∀ v F1 H1 d,Rep C.K own F1 H1 σ ρ->Chg No F H F1 H1->MoIs C.K ma H F1 H1 v d->Po C own m σ F1 H1 (k d) Q->R v H1):PoV C ma F H o R:=by
 cases o with
 | ok d=>exact λv F1 H1 s c mo=>b v F1 H1 d (a.grow c s) c mo (Po.shift (show Po C own m σ F H (k d) Q from h) c.ofNo)
 | exc c=>exact h.elim
 | bad=>exact h.elim
theorem Qn {Q:VK} (t:ma≠.any) (l:mb≠.any) (h:tE C own .sh (jN g g' fa fb fc) σ H Q):Kb (λx y H Q=>∃ F dx n,Same F H/\TopIs C.K F H x dx/\TopIs C.K F H y n/\PoV C .sh F H (g dx n) Q) (λx y H Q=>∃ F dx n,Same F H/\TopIs C.K F H x dx/\TopIs C.K F H y n/\PoV C .sh F H (g' dx n) Q)
   (tE C own ma fa) (tE C own mb fb) (tE C own mc fc) σ H Q:=by
 obtain ⟨F,ρ,B,h⟩:=h;refine ⟨F,ρ,B,Po.bind h λv F1 H1 d ρ1 i O s h1=>⟨F1,ρ1,i,Po.bind h1 λw N H2 e p f c2 j h2=>?_⟩⟩;have oa:∀ x,OA own σ x->H x≠none:=λx z=>(B.OA_there z).1;have o:∀ x,OA own σ x->H1 x≠none:=λx z=>(i.OA_there z).1;refine ⟨N,d,e,f.sub,(s.grow t c2 oa).top,j.top,PoV.bind (m:=.sh) f h2 λz A L G c J a u=>?_⟩;cases G with
 | bl k=>
  have a:Is C.K A z (.bl k):=a;cases a;refine ⟨k,rfl,?_⟩;cases k with
  | true=>refine ⟨A,p,c,Po.bind u λT M P r D b I q E=>?_⟩;exact ⟨M,e,r,b.sub,((j.grow l (J.ofNo) o).grow l I o).top,q.top,PoV.of b E⟩
  | false=>exact u _ A L c .refl (.bl _)
 | _=>exact u.elim
theorem xb (s:OpD X C .sh (eJ op) g) (d:OpD X C .sh (eJ op') g') (j:PE X a (tE C own ma fa)) (i:PE X b (tE C own mb fb)) (e:PE X c (tE C own mc fc)) (f:ma≠.any:=by decide) (l:mb≠.any:=by decide)
  (m:lastMarks [op,op'] [b,c]=false:=by with_unfolding_all rfl):PE X (.Compare a [op,op'] [b,c] pos) (tE C own .sh (jN g g' fa fb fc)):=jd (WA s d j i e m) λ_ _ _ h=>Qn f l h
theorem wj (s:OpD X C .sh (eJ op) g) (d:OpD X C .sh (eJ op') g') (j:PE X a (tE C own ma fa)) (i:PE X b (tE C own mb fb)) (e:PE X c (tE C own mc fc)) (f:ma≠.any:=by decide) (l:mb≠.any:=by decide)
  (m:lastMarks [op,op'] [b,c]=false:=by with_unfolding_all rfl):PT X (.Compare a [op,op'] [b,c] pos) (tT C own (jp (jN g g' fa fb fc))):=WM (WB s d j i e m) λ_ _ _ h=>Qn f l (KI h)
theorem KK:OpR X (eJ .LtE) (λx y H Q=>∃ i j,x=.str i/\y=.str j/\Q (.bl (!vQ j i)) H):=by intro pins s σ H x y v u Q I d c h;obtain ⟨i,j,rfl,rfl,q⟩:=h;obtain ⟨t,rfl⟩:=d;obtain ⟨t',rfl⟩:=c;exact PySem.P.le_str (JZ I q (by simp [vQ]))
noncomputable def leD:D->D->Out D
 | .int i,.int j=>.ok (.bl (decide (i<=j)))
 | .str x,.str y=>.ok (.bl (!vQ y x))
 | _,_=>.bad
theorem wk:OpD X C .sh (eJ .LtE) leD:=by
 intro pins s σ H x y v u Q I d c h;obtain ⟨F,dx,a,A,t,ty,po⟩:=h;cases dx <;> try exact po.elim
 ·cases a <;> try exact po.elim
  obtain rfl:=t.int;obtain rfl:=ty.int;exact qaY pins s σ H _ _ v u Q I d c ⟨_,_,rfl,rfl,po _ F H A .refl (.bl _)⟩
 ·cases a <;> try exact po.elim
  obtain ⟨rfl,_⟩:=t.str;obtain ⟨rfl,_⟩:=ty.str;exact KK pins s σ H _ _ v u Q I d c ⟨_,_,rfl,rfl,po _ F H A .refl (.bl _)⟩
noncomputable def gtD:D->D->Out D:=uS λi j=>.ok (.bl (decide (j < i)))
noncomputable def geD:D->D->Out D:=uS λi j=>.ok (.bl (decide (j<=i)))
theorem Gn:OpD X C .sh (eJ .GtE) geD:=Ku qaZ λ_ _ _=>.bl _
noncomputable def qbc:D->D->Out D
 | .non,.non=>.ok (.bl d8)
 | .raw _,.non=>.bad
 | _,.non=>.ok (.bl d7)
 | _,_=>.bad
noncomputable def WS:D->D->Out D
 | .non,.non=>.ok (.bl d7)
 | .raw _,.non=>.bad
 | _,.non=>.ok (.bl d8)
 | _,_=>.bad
theorem TopIs.notN (h:TopIs K F H v d) (h1:d≠.non) (h2:∀ u,d≠.raw u):v≠.non:=by
 rintro rfl;rcases h with h | ⟨a,e,_⟩
 ·cases h;·exact h1 rfl
  ·exact h2 _ rfl
 ·cases e
theorem Xe:OpD X C .sh (eJ .IsNot) WS:=by
 intro pins s σ H x y v u Q I r c h;obtain ⟨F,dx,d,A,t,ty,po⟩:=h;have D:d=.non:=by cases d <;> first | rfl | (cases dx <;> exact po.elim)
 subst D;obtain rfl:=ty.non;refine YF pins s σ H x .non v u Q I r c ⟨rfl,?_⟩;cases dx with
 | non=>obtain rfl:=t.non; exact po _ F H A .refl (.bl _)
 | raw _=>exact po.elim
 | _=>rw [Ac (t.notN (by intro z; cases z) (by intro _ z; cases z))]; exact po _ F H A .refl (.bl _)
end
inductive Fl where
 | nx | rt (d:D) | bk | ct
structure Nx (C:Ct) (own own':List Nat) (σ:St) (F H:Hp) (ρ':Sl) (σ':St) (F' H':Hp):Prop where
 rep:Rep C.K own' F' H' σ' ρ'
 chg:Chg (OA own σ) F H F' H'
 oa:∀ b,OA own' σ' b->OA own σ b\/H b=d6
 io:∀ i∈C.io,σ'[i]?=σ[i]?
def PoS (C:Ct) (own own':List Nat) (σ:St) (F H:Hp) (r:Out (Fl×Sl)) (D:Ends):Prop:=match r with
 | .ok (.nx,ρ')=>∀ σ' F' H',Nx C own own' σ F H ρ' σ' F' H'->D.nx σ' H'
 | .ok (.rt d,ρ')=>∀ v σ' F' H',Same F' H'->JK C.K C.io F' H' σ' ρ'->Chg (OA own σ) F H F' H'->(∀ i∈C.io,σ'[i]?=σ[i]?)->MoIs C.K C.mr H F' H' v d->D.rt v H'
 | .ok (.bk,ρ')=>∀ σ' F' H',Nx C own C.ol σ F H ρ' σ' F' H'->D.bk σ' H'
 | .ok (.ct,ρ')=>∀ σ' F' H',Nx C own C.ol σ F H ρ' σ' F' H'->D.ct σ' H'
 | .exc c ρ'=>∀ F' H',Same F' H'->JK C.K C.ox F' H' σ ρ'->Chg (OA own σ) F H F' H'->C.E (C.cv c) d6 H'
 | .bad=>False
abbrev qP:=Sl->Out (Fl×Sl)
def tSt (C:Ct) (own own':List Nat) (f:qP):TS:=λD σ H=>∃ F ρ,Rep C.K own F H σ ρ/\PoS C own own' σ F H (f ρ) D
variable {o1 o2 o3:List Nat} {σ1:St} {ρ1:Sl}
theorem Nx.then {c:St} {d H2:Hp} {j:Sl} (a:Nx C o1 o2 σ F H ρ1 σ1 F1 H1) (b:Nx C o2 o3 σ1 F1 H1 j c d H2):Nx C o1 o3 σ F H j c d H2 where
 rep:=b.rep
 chg:=a.chg.trans b.chg a.oa
 oa:=λx h=>by
  rcases b.oa x h with z | z;·exact a.oa x z
  ·refine .inr ?_;cases q:H x with
   | none=>rfl
   | some o=>exact absurd z (a.chg.stay x (by rw [q]; simp))
 io:=λi hi=>(b.io i hi).trans (a.io i hi)
theorem PoS.shift {r:Out (Fl×Sl)} {D:Ends} (h:PoS C o1 o3 σ F H r D) (a:Nx C o1 o2 σ F H ρ1 σ1 F1 H1):PoS C o2 o3 σ1 F1 H1 r D:=by
 cases r with
 | ok p=>
  obtain ⟨l,ρ'⟩:=p;cases l with
  | nx=>exact λσ' F' H' n=>h σ' F' H' (a.then n)
  | rt d=>exact λv σ' F' H' s io c e mo=>h v σ' F' H' s io (a.chg.trans c a.oa) (λi hi=>(e i hi).trans (a.io i hi)) (MoIs.back (Ha:=H1) a.chg mo)
  | bk=>exact λσ' F' H' n=>h σ' F' H' (a.then n)
  | ct=>exact λσ' F' H' n=>h σ' F' H' (a.then n)
 | exc c=>exact λF' H' s io U=>h F' H' s (λi hi=>by obtain ⟨d,b,e1,j,E⟩:=io i hi;exact ⟨d,b,e1,by rw [<-a.io i (C.oxs i hi)]; exact j,E⟩) (a.chg.trans U a.oa)
 | bad=>exact h.elim
theorem Nx.ofE (r:Rep C.K own F1 H1 σ ρ1) (c:Chg (OA own σ) F H F1 H1):Nx C own own σ F H ρ1 σ F1 H1:=⟨r,c,λ_ h=>.inl h,λ_ _=>rfl⟩
variable {own':List Nat}
theorem PoS.bindE {m:Mo} {o:za} {k:D×Sl->Out (Fl×Sl)} {D:Ends} {R:VK} (hp:PoS C own own' σ F H (o.bind k) D)
  (h:∀ v F1 H1 d ρ1,Rep C.K own F1 H1 σ ρ1->Chg (OA own σ) F H F1 H1->MoIs C.K m H F1 H1 v d->PoS C own own' σ F1 H1 (k (d,ρ1)) D->R v H1):Po C own m σ F H o R:=by
 cases o with
 | ok p=>obtain ⟨d,ρ1⟩:=p;exact λv F1 H1 a c mo=>h v F1 H1 d ρ1 a c mo (PoS.shift (show PoS C own own' σ F H (k (d,ρ1)) D from hp) (.ofE a c))
 | exc x=>exact hp
 | bad=>exact hp.elim
theorem PoS.bindT {k:Bool×Sl->Out (Fl×Sl)} {D:Ends} {R:Bool->Hp->Prop} (hp:PoS C own own' σ F H (o.bind k) D)
  (h:∀ F1 H1 b ρ1,Rep C.K own F1 H1 σ ρ1->Chg (OA own σ) F H F1 H1->PoS C own own' σ F1 H1 (k (b,ρ1)) D->R b H1):PoT C own σ F H o R:=by
 cases o with
 | ok p=>obtain ⟨d,ρ1⟩:=p;exact λF1 H1 a c=>h F1 H1 d ρ1 a c (PoS.shift (show PoS C own own' σ F H (k (d,ρ1)) D from hp) (.ofE a c))
 | exc x=>exact hp
 | bad=>exact hp.elim
variable {b a:Addr} {t':TS} {st:Stmt} {i:Nat} {x:Str} {pos':Pos}
section
variable {sts rest:List Stmt} {f g:qP} {fe:qM} {ft:uE}
theorem Jj {t:TS} (h:PS X st t) (i:∀ D σ H,t' D σ H->t D σ H):PS X st t':=⟨λpins s σ H D I w=>h pins s σ H D I (i D σ H w)⟩
theorem KL {t:TS} (h:PSs X sts t) (i:∀ D σ H,t' D σ H->t D σ H):PSs X sts t':=⟨λpins s σ H D I w=>h pins s σ H D I (i D σ H w)⟩
noncomputable def jq:qP:=λρ=>.ok (.nx,ρ)
noncomputable def jl (f g:qP):qP:=λρ=>(f ρ).bind λp=>match p.1 with
 | .nx=>g p.2
 | fl=>.ok (fl,p.2)
theorem Nx.refl (r:Rep C.K own F H σ ρ):Nx C own own σ F H ρ σ F H:=.ofE r .refl
theorem qD:PSs X [] (tSt C own own jq):=KL JV λD σ H ⟨F,ρ,a,h⟩=>h σ F H (.refl a)
theorem Go {D:Ends} (h:tSt C o1 o3 (jl f g) D σ H):tSt C o1 o2 f { D with nx:=tSt C o2 o3 g D } σ H:=by
 obtain ⟨F,ρ,a,h⟩:=h;refine ⟨F,ρ,a,?_⟩;unfold jl at h;cases q:f ρ with
 | ok p=>
  rw [q] at h;obtain ⟨l,ρ1⟩:=p;cases l with
  | nx=>exact λσ' F' H' n=>⟨F',ρ1,n.rep,PoS.shift (show PoS C o1 o3 σ F H (g ρ1) D from h) n⟩
  | rt d=>exact h
  | bk=>exact h
  | ct=>exact h
 | exc c=>rw [q] at h; exact h
 | bad=>rw [q] at h; exact h.elim
theorem qe (h1:PS X st (tSt C o1 o2 f)) (h2:PSs X rest (tSt C o2 o3 g)):PSs X (st::rest) (tSt C o1 o3 (jl f g)):=KL (Wx h1 h2) λD σ H h=>Go h
theorem qm (h1:PS X st (tSt C o1 o2 f)):PSs X [st] (tSt C o1 o2 f):=YC h1
theorem Rep.weak {K:Frag} {F H:Hp} {σ:St} {ρ:Sl}:∀ (drop:List Nat) {own own':List Nat},(∀ i,i∈own'↔i∈own/\i∉drop)->Rep K own F H σ ρ->∃ F',Rep K own' F' H σ ρ/\Chg (OA own σ) F H F' H
 | [],own,own',hs,rp=>⟨F,⟨rp.sub,rp.len,λi d hi=>rp.val i d λz=>hi ((hs i).mpr ⟨z,by simp⟩),λi d hi=>rp.ow i d ((hs i).mp hi).1,λi hi=>rp.opn i ((hs i).mp hi).1,λi j a hi G=>rp.dis i j a ((hs i).mp hi).1 ((hs j).mp G).1⟩,.refl⟩
 | k::r,own,own',hs,rp=>by
  obtain ⟨F1,c,n⟩:=Rep.weak r (own:=own) (own':=own.filter λi=>decide (i∉r)) (λi=>by simp) rp;by_cases f:k∈own/\k∉r
  ·obtain ⟨d,hd⟩:=c.opn k (by simp [f.1,f.2]);obtain ⟨a,h1,h2,g⟩:=c.ow k d (by simp [f.1,f.2]) hd;obtain ⟨u,hu⟩:∃ u,H a=d4 u:=by
    cases q:H a with
    | none=>exact absurd q g.there
    | some u=>exact ⟨u,rfl⟩
   have gr:Same F1 (upd F1 a u):=λb w e=>by rw [qu (qx e h2)]; exact e
   refine ⟨upd F1 a u,⟨λb w e=>?_,c.len,λi d' hi e=>?_,λi d' hi e=>?_,λi hi=>?_,λi j b hi G=>?_⟩,?_⟩
   ·by_cases q:b=a;·subst q; rw [ql] at e; cases e; exact hu
    ·rw [qu q] at e; exact c.sub b w e
   ·by_cases q:i=k
    ·subst q;rw [hd] at e; cases e;refine ⟨_,h1,?_⟩;cases d with
     | lst ds=>obtain ⟨xs,e,t⟩:=g; rw [hu] at e; cases e; exact .lst (.inl (.inl ql)) (t.mono gr)
     | dct ds=>obtain ⟨xs,e,t⟩:=g; rw [hu] at e; cases e; exact .dct ql (t.mono gr)
     | ins C fs=>obtain ⟨dx,xs,e,t⟩:=g; rw [hu] at e; cases e; exact .ins ql (t.mono gr)
     | at_ b ds=>obtain ⟨J,xs,e,t⟩:=g; rw [hu] at e; cases e; subst J; exact .at_ (.inl (.inl ql)) (t.mono gr)
     | _=>exact g.elim
    ·obtain ⟨v,o,p⟩:=c.val i d' (λz=>by simp at z; exact hi ((hs i).mpr ⟨z.1,by simp [q,z.2]⟩)) e;exact ⟨v,o,p.mono gr⟩
   ·have h:=(hs i).mp hi;have s:i≠k:=λz=>h.2 (by simp [z]);have m:i∉r:=λz=>h.2 (by simp [z]);obtain ⟨b,o,p,y⟩:=c.ow i d' (by simp [h.1,m]) e;refine ⟨b,o,?_,y.grow gr λ_ z=>z⟩;have A:b≠a:=λz=>by subst z; exact s (c.dis i k b (by simp [h.1,m]) (by simp [f.1,f.2]) o h1)
    rw [qu A]; exact p
   ·have h:=(hs i).mp hi;exact c.opn i (by simp [h.1]; exact λz=>h.2 (by simp [z]))
   ·have h:=(hs i).mp hi;have l:=(hs j).mp G;exact c.dis i j b (by simp [h.1]; exact λz=>h.2 (by simp [z])) (by simp [l.1]; exact λz=>l.2 (by simp [z]))
   ·refine ⟨n.keep,n.stay,n.grow.trans gr,λb x=>?_⟩;by_cases q:b=a;·exact .inr (.inr ⟨k,f.1,by rw [q]; exact h1⟩)
    ·rw [qu q] at x; exact n.new b x
  ·refine ⟨F1,⟨c.sub,c.len,λi d hi=>c.val i d λz=>?_,λi d hi=>c.ow i d ?_,λi hi=>c.opn i ?_,λi j a hi G=>c.dis i j a ?_ ?_⟩,n⟩;·simp at z;refine hi ((hs i).mpr ⟨z.1,?_⟩);simp only [aa,not_or];exact ⟨λq=>f (by subst q; exact z),z.2⟩
   all_goals
    first
     | (have q:=(hs _).mp hi; simp only [cT,decide_eq_true_eq]; exact ⟨q.1,λz=>q.2 (by simp [z])⟩)
     | (have q:=(hs _).mp G; simp only [cT,decide_eq_true_eq]; exact ⟨q.1,λz=>q.2 (by simp [z])⟩)
theorem OA.sub (h:∀ i∈own',i∈own) (q:OA own' σ b):OA own σ b:=let ⟨i,hi,e⟩:=q; ⟨i,h i hi,e⟩
theorem Nx.drop (drop:List Nat) (h:∀ i,i∈own'↔i∈own/\i∉drop) (r:Rep C.K own F H σ ρ):∃ F',Nx C own own' σ F H ρ σ F' H:=by obtain ⟨F',a,c⟩:=Rep.weak drop h r;exact ⟨F',a,c,λb q=>.inl (OA.sub (λi hi=>((h i).mp hi).1) q),λ_ _=>rfl⟩
noncomputable def kW (own drop:List Nat):List Nat:=own.filter λi=>decide (i∉drop)
theorem qH {own drop:List Nat} (i:Nat):i∈kW own drop↔i∈own/\i∉drop:=by simp [kW]
theorem WT (drop:List Nat) (h:PSs X sts (tSt C (kW own drop) o2 f)):PSs X sts (tSt C own o2 f):=KL h λD σ H ⟨F,ρ,a,h⟩=>by obtain ⟨F',n⟩:=Nx.drop (C:=C) drop (λi=>qH (own:=own) i) a;exact ⟨F',ρ,n.rep,h.shift n⟩
noncomputable def sIf (ft:uE) (f g:qP):qP:=λρ=>(ft ρ).bind λp=>if p.1=d8 then f p.2 else g p.2
theorem qT {a b:List Stmt} (d:PT X c (tT C own ft)) (i:PSs X a (tSt C own own' f)) (e:PSs X b (tSt C own own' g)):PS X (.If c a b pos) (tSt C own own' (sIf ft f g)):=by
 refine Jj (qaR d i e) λD σ H ⟨F,ρ,p,h⟩=>⟨F,ρ,p,PoS.bindT h λF1 H1 k ρ1 r l h1=>?_⟩
 cases k with
 | true=>exact ⟨F1,ρ1,r,h1⟩
 | false=>exact ⟨F1,ρ1,r,h1⟩
noncomputable def wl (fe:qM):qP:=λρ=>(fe ρ).bind λp=>.ok (.nx,p.2)
theorem jn (i:PE X e (tE C own m fe)) (s:fY e d6 pos.line X.env=pure false:=by rfl):PS X (.Expr e pos) (tSt C own own (wl fe)):=by refine Jj (YD i s) λD σ H ⟨F,ρ,r,h⟩=>⟨F,ρ,r,PoS.bindE h λv F1 H1 d ρ1 a l c h1=>h1 σ F1 H1 (.refl a)⟩
noncomputable def jI (fe:qM):qP:=λρ=>(fe ρ).bind λp=>.ok (.rt p.1,p.2)
theorem Xf (b:PE X e (tE C own C.mr fe)) (o:∀ i∈C.io,i∈own:=by exact jm rfl):PS X (.Return (d4 e) pos) (tSt C own own' (jI fe)):=by
 refine Jj (ZM b) λD σ H ⟨F,ρ,r,h⟩=>⟨F,ρ,r,?_⟩
 unfold jI at h;cases q:fe ρ with
 | ok p=>rw [q] at h;obtain ⟨d,ρ1⟩:=p;exact λv F1 H1 a l m=>h v σ F1 H1 a.sub (a.ioIs o) l (λ_ _=>rfl) m
 | exc c=>rw [q] at h; exact h
 | bad=>rw [q] at h; exact h.elim
theorem qp (h:PE X e (tE C own m fe)) (c:m≠.any:=by decide) (f:C.mr=.sh:=by rfl) (o:∀ i∈C.io,i∈own:=by exact jm rfl):PS X (.Return (d4 e) pos) (tSt C own own' (jI fe)):=Xf (by rw [f]; exact uR h c) o
theorem Rep.put (r:Rep K own F H σ ρ) (hi:i < ρ.length) (is:Is K F v d):Rep K (kW own [i]) F H (σ.set i (d4 v)) (ρ.set i (d4 d)) where
 sub:=r.sub
 len:=by simp [r.len]
 val:=λj d' G e=>by
  by_cases q:j=i;·subst q;rw [ap hi] at e;cases e;exact ⟨v,ap (by rw [r.len]; exact hi),is⟩
  ·rw [af (be q)] at e;obtain ⟨w,h1,h2⟩:=r.val j d' (λz=>G ((qH j).mpr ⟨z,by simp [q]⟩)) e;exact ⟨w,by rw [af (be q)]; exact h1,h2⟩
 ow:=λj d' G e=>by have l:=(qH j).mp G;have q:j≠i:=λz=>l.2 (by simp [z]);rw [af (be q)] at e;obtain ⟨a,h1,h2⟩:=r.ow j d' l.1 e;exact ⟨a,by rw [af (be q)]; exact h1,h2⟩
 opn:=λj G=>by have l:=(qH j).mp G;have q:j≠i:=λz=>l.2 (by simp [z]);obtain ⟨d',e⟩:=r.opn j l.1;exact ⟨d',by rw [af (be q)]; exact e⟩
 dis:=λj k a G c e1 b=>by have l:=(qH j).mp G;have h:=(qH k).mp c;rw [af (λz=>l.2 (by simp [z]))] at e1;rw [af (λz=>h.2 (by simp [z]))] at b;exact r.dis j k a l.1 h.1 e1 b
theorem OA.put (h:OA (kW own [i]) (σ.set i (d4 v)) b):OA own σ b:=by obtain ⟨j,G,e⟩:=h;have l:=(qH j).mp G;rw [af (λz=>l.2 (by simp [z]))] at e;exact ⟨j,l.1,e⟩
noncomputable def vR (i:Nat) (fe:qM):qP:=λρ=>(fe ρ).bind λp=>if i < p.2.length then .ok (.nx,p.2.set i (d4 p.1)) else .bad
theorem Xg (l:X.N.Nodup) (hi:X.N[i]?=d4 x) (hx:Loc X.env.scope x) (k:PE X e (tE C own m fe)) (f:m≠.any:=by decide) (o:i∉C.io:=by exact uQ rfl) (s:fY e (d4 (.Name x pos')) pos.line X.env=pure false:=by rfl)
  (g:X.fn x=d8\/X.env.scope.names.lookup x=d4 .local:=by first | exact .inl rfl | exact .inr rfl):PS X (.Assign [.Name x pos'] e pos) (tSt C own (kW own [i]) (vR i fe)):=by
 refine Jj (Yj l hi hx (uR k f) s g) λD σ H ⟨F,ρ,r,h⟩=>⟨F,ρ,r,PoS.bindE h λv F1 H1 d ρ1 a n c h1=>?_⟩
 by_cases q:i < ρ1.length;·have h1:PoS C own (kW own [i]) σ F1 H1 (if i < ρ1.length then .ok (.nx,ρ1.set i (d4 d)) else .bad) D:=h1;rw [Aa q] at h1;exact h1 _ F1 H1 ⟨a.put q c,.refl,λb z=>.inl (OA.put z),λj G=>af λz=>o (by rw [z]; exact G)⟩
 ·have h1:PoS C own (kW own [i]) σ F1 H1 (if i < ρ1.length then .ok (.nx,ρ1.set i (d4 d)) else .bad) D:=h1;rw [Ab q] at h1;exact h1.elim
theorem Rep.putO (r:Rep K own F H σ ρ) (hi:i < ρ.length) (E:F a=d6) (n:¬OA own σ a) (o:OwnIs K F H a d):Rep K (i::kW own [i]) F H (σ.set i (d4 (.ref a))) (ρ.set i (d4 d)) where
 sub:=r.sub
 len:=by simp [r.len]
 val:=λj d' G e=>by have q:j≠i:=λz=>G (by simp [z]);rw [af (be q)] at e;obtain ⟨w,h1,h2⟩:=r.val j d' (λz=>G (ac _ ((qH j).mpr ⟨z,by simp [q]⟩))) e;exact ⟨w,by rw [af (be q)]; exact h1,h2⟩
 ow:=λj d' G e=>by
  by_cases q:j=i;·subst q;rw [ap hi] at e;cases e;exact ⟨a,ap (by rw [r.len]; exact hi),E,o⟩
  ·have l:=(qH j).mp ((aa.mp G).resolve_left q);rw [af (be q)] at e;obtain ⟨b,h1,h2⟩:=r.ow j d' l.1 e;exact ⟨b,by rw [af (be q)]; exact h1,h2⟩
 opn:=λj G=>by
  by_cases q:j=i;·subst q; exact ⟨d,ap hi⟩
  ·have l:=(qH j).mp ((aa.mp G).resolve_left q);obtain ⟨d',e⟩:=r.opn j l.1;exact ⟨d',by rw [af (be q)]; exact e⟩
 dis:=λj k b G p e1 f=>by
  have m:i < σ.length:=by rw [r.len]; exact hi
  by_cases g:j=i
  ·by_cases c:k=i;·rw [g,c]
   ·subst g;have h:=(qH k).mp ((aa.mp p).resolve_left c);rw [ap m] at e1;cases e1;rw [af (be c)] at f;exact absurd ⟨k,h.1,f⟩ n
  ·have l:=(qH j).mp ((aa.mp G).resolve_left g);by_cases c:k=i;·subst c;rw [ap m] at f;cases f;rw [af (be g)] at e1;exact absurd ⟨j,l.1,e1⟩ n
   ·have h:=(qH k).mp ((aa.mp p).resolve_left c);rw [af (be g)] at e1;rw [af (be c)] at f;exact r.dis j k b l.1 h.1 e1 f
theorem WU (w:X.N.Nodup) (hi:X.N[i]?=d4 x) (hx:Loc X.env.scope x) (u:PE X e (tE C own .fr fe)) (f:i∉C.io:=by exact uQ rfl) (s:fY e (d4 (.Name x pos')) pos.line X.env=pure false:=by rfl)
  (t:X.fn x=d8\/X.env.scope.names.lookup x=d4 .local:=by first | exact .inl rfl | exact .inr rfl):PS X (.Assign [.Name x pos'] e pos) (tSt C own (i::kW own [i]) (vR i fe)):=by
 refine Jj (Yj w hi hx u s t) λD σ H ⟨F,ρ,k,h⟩=>⟨F,ρ,k,?_⟩
 unfold vR at h;cases q:fe ρ with
 | ok p=>
  rw [q] at h;obtain ⟨d,ρ1⟩:=p;intro v F1 H1 r A m;obtain ⟨a,rfl,n,E,o⟩:=m;by_cases z:i < ρ1.length
  ·have h1:PoS C own (i::kW own [i]) σ F H (if i < ρ1.length then .ok (.nx,ρ1.set i (d4 d)) else .bad) D:=h;rw [Aa z] at h1;refine h1 _ F1 H1 ⟨r.putO z E (λy=>(k.OA_there y).1 n) o,A,λb y=>?_,λj G=>af λy=>f (by rw [y]; exact G)⟩;obtain ⟨j,G,e⟩:=y;by_cases g:j=i;·subst g;rw [ap (by rw [r.len]; exact z)] at e;cases e;exact .inr n
   ·have l:=(qH j).mp ((aa.mp G).resolve_left g);rw [af (be g)] at e;exact .inl ⟨j,l.1,e⟩
  ·have h1:PoS C own (i::kW own [i]) σ F H (if i < ρ1.length then .ok (.nx,ρ1.set i (d4 d)) else .bad) D:=h;rw [Ab z] at h1;exact h1.elim
 | exc c=>rw [q] at h; exact h
 | bad=>rw [q] at h; exact h.elim
end
inductive AK where
 | vl | sl (i:Nat) | fr
 deriving DecidableEq
def ArgV (K:Frag) (H0 F H:Hp) (σ:St):List AK->List V->List D->Prop
 | [],[],[]=>True
 | .vl::as,v::vs,d::ds=>Is K F v d/\ArgV K H0 F H σ as vs ds
 | .sl i::as,v::vs,d::ds=>σ[i]?=d4 (d4 v)/\d=.non/\ArgV K H0 F H σ as vs ds
 | .fr::as,v::vs,d::ds=>MoIs K .fr H0 F H v d/\ArgV K H0 F H σ as vs ds
 | _,_,_=>False
variable {H0 F' H':Hp}
theorem ArgV.grow {A:Addr->Prop} (c:Chg A F H F' H') (hA:∀ x,A x->H0 x≠d6):∀ {as:List AK} {vs:List V} {ds:List D},ArgV K H0 F H σ as vs ds->ArgV K H0 F' H' σ as vs ds
 | [],[],[],h=>trivial
 | .vl::as,v::vs,d::ds,h=>⟨h.1.mono c.grow,ArgV.grow c hA h.2⟩
 | .sl i::as,v::vs,d::ds,h=>⟨h.1,h.2.1,ArgV.grow c hA h.2.2⟩
 | .fr::as,v::vs,d::ds,h=>⟨h.1.grow (by decide) c hA,ArgV.grow c hA h.2⟩
 | [],_::_,_,h=>h.elim
 | [],[],_::_,h=>h.elim
 | .vl::_,[],_,h=>h.elim
 | .vl::_,_::_,[],h=>h.elim
 | .sl _::_,[],_,h=>h.elim
 | .sl _::_,_::_,[],h=>h.elim
 | .fr::_,[],_,h=>h.elim
 | .fr::_,_::_,[],h=>h.elim
theorem ArgV.back {A:Addr->Prop} {F0:Hp} (c:Chg A F0 H0 F1 H1):∀ {as:List AK} {vs:List V} {ds:List D},ArgV K H1 F H σ as vs ds->ArgV K H0 F H σ as vs ds
 | [],[],[],h=>trivial
 | .vl::as,v::vs,d::ds,h=>⟨h.1,ArgV.back c h.2⟩
 | .sl i::as,v::vs,d::ds,h=>⟨h.1,h.2.1,ArgV.back c h.2.2⟩
 | .fr::as,v::vs,d::ds,h=>⟨MoIs.back (Ha:=H1) c h.1,ArgV.back c h.2⟩
 | [],_::_,_,h=>h.elim
 | [],[],_::_,h=>h.elim
 | .vl::_,[],_,h=>h.elim
 | .vl::_,_::_,[],h=>h.elim
 | .sl _::_,[],_,h=>h.elim
 | .sl _::_,_::_,[],h=>h.elim
 | .fr::_,[],_,h=>h.elim
 | .fr::_,_::_,[],h=>h.elim
def PoA (C:Ct) (own:List Nat) (as:List AK) (σ:St) (F H:Hp) (r:Out (List D×Sl)) (Q:List V->Hp->Prop):Prop:=match r with
 | .ok (ds,ρ')=>∀ vs F' H',Rep C.K own F' H' σ ρ'->Chg (OA own σ) F H F' H'->ArgV C.K H F' H' σ as vs ds->Q vs H'
 | .exc c ρ'=>∀ F' H',Same F' H'->JK C.K C.ox F' H' σ ρ'->Chg (OA own σ) F H F' H'->C.E (C.cv c) d6 H'
 | .bad=>False
abbrev kP:=Sl->Out (List D×Sl)
def tAr (C:Ct) (own:List Nat) (as:List AK) (f:kP):TA:=λσ H Q=>∃ F ρ,Rep C.K own F H σ ρ/\PoA C own as σ F H (f ρ) Q
variable {as:List AK}
theorem PoA.bindV {ma:Mo} {o:za} {k:D×Sl->Out (List D×Sl)} {Q:List V->Hp->Prop} {R:VK} (hp:PoA C own as σ F H (o.bind k) Q)
  (h:∀ v F1 H1 d ρ1,Rep C.K own F1 H1 σ ρ1->Chg (OA own σ) F H F1 H1->MoIs C.K ma H F1 H1 v d->PoA C own as σ F H (k (d,ρ1)) Q->R v H1):Po C own ma σ F H o R:=by
 cases o with
 | ok p=>obtain ⟨d,ρ1⟩:=p;exact λv F1 H1 a c mo=>h v F1 H1 d ρ1 a c mo hp
 | exc x=>exact hp
 | bad=>exact hp.elim
theorem Po.bindA {as:List AK} {o:Out (List D×Sl)} {k:List D×Sl->za} {Q:VK} {R:List V->Hp->Prop} (hp:Po C own m σ F H (o.bind k) Q)
  (h:∀ vs F1 H1 ds ρ1,Rep C.K own F1 H1 σ ρ1->Chg (OA own σ) F H F1 H1->ArgV C.K H F1 H1 σ as vs ds->Po C own m σ F1 H1 (k (ds,ρ1)) Q->R vs H1):PoA C own as σ F H o R:=by
 cases o with
 | ok p=>obtain ⟨d,ρ1⟩:=p;exact λvs F1 H1 a c v=>h vs F1 H1 d ρ1 a c v (Po.shift (show Po C own m σ F H (k (d,ρ1)) Q from hp) c)
 | exc x=>exact hp
 | bad=>exact hp.elim
noncomputable def qB:kP:=λρ=>.ok ([],ρ)
noncomputable def qb (fe:qM) (fr:kP):kP:=λρ=>(fe ρ).bind λp=>(fr p.2).bind λq=>.ok (p.1::q.1,q.2)
noncomputable def kt (fr:kP):kP:=λρ=>(fr ρ).bind λq=>.ok (D.non::q.1,q.2)
variable {es:List Expr} {p:Addr} {u:HO}
section
variable {fe:qM} {fr:kP}
theorem Xh {t t':TA} (h:PA X es t) (i:∀ σ H Q,t' σ H Q->t σ H Q):PA X es t':=⟨λpos pins s σ H Q I w=>h pos pins s σ H Q I (i σ H Q w)⟩
theorem qc:PA X [] (tAr C own [] qB):=Xh jw λσ H Q ⟨F,ρ,a,h⟩=>h [] F H a .refl trivial
theorem zh {a:AK} {Q:List V->Hp->Prop} {v:V} (h:∀ x,OA own σ x->H x≠d6) (e:Rep C.K own F1 H1 σ ρ1) (l:Chg (OA own σ) F H F1 H1) (hp:PoA C own (a::as) σ F H ((fr ρ1).bind λq=>.ok (d::q.1,q.2)) Q)
  (g:∀ b H2 vs ds,Chg (OA own σ) F1 H1 b H2->ArgV C.K H b H2 σ as vs ds->ArgV C.K H b H2 σ (a::as) (v::vs) (d::ds)):tAr C own as fr σ H1 λxs H2=>Q (v::xs) H2:=by
 refine ⟨F1,ρ1,e,?_⟩;cases q:fr ρ1 with
 | ok p=>rw [q] at hp;obtain ⟨ds,j⟩:=p;exact λvs b H2 r c2 f=>hp (v::vs) b H2 r (l.trans' c2) (g b H2 vs ds c2 (ArgV.back l f))
 | exc c=>rw [q] at hp; exact λF' H' s io U=>hp F' H' s io (l.trans' U)
 | bad=>rw [q] at hp; exact hp.elim
theorem qa (g:PE X e (tE C own m fe)) (f:PA X es (tAr C own as fr)) (b:m≠.any:=by decide) (s:eh (e::es) X.env=(d7,eval e X.env)::eh es X.env:=by exact qK rfl):PA X (e::es) (tAr C own (.vl::as) (qb fe fr)):=by
 refine Xh (qF (uR g b) f s) λσ H Q ⟨F,ρ,r,h⟩=>⟨F,ρ,r,PoA.bindV h λv F1 H1 d ρ1 a l c h1=>?_⟩
 exact zh (λx z=>(r.OA_there z).1) a l h1 λj H2 vs ds c2 i=>⟨Is.mono c2.grow c,i⟩
theorem WV {px:Pos} (g:X.N[i]?=d4 x) (c:Vis X.env.scope x) (s:i∈own) (f:PA X es (tAr C own as fr)) (e:eh (.Name x px::es) X.env=(d7,eval (.Name x px) X.env)::eh es X.env:=by rfl)
  (hd:Dbg x:=by decide) (b:Cdk x:=by decide):PA X (.Name x px::es) (tAr C own (.sl i::as) (kt fr)):=by
 refine Xh (qF (xS g c hd b) f e) λσ H Q ⟨F,ρ,r,h⟩=>?_;obtain ⟨d,hd⟩:=r.opn i s;obtain ⟨a,h1,h2,j⟩:=r.ow i d s hd;exact ⟨_,h1,zh (λx z=>(r.OA_there z).1) r .refl h λk H2 vs ds c2 v=>⟨h1,rfl,v⟩⟩
theorem ArgV.isL:∀ {as:List AK} {vs:List V} {ds:List D},(as.all λa=>decide (a=.vl))=d8->ArgV K H0 F H σ as vs ds->IsL K F vs ds
 | [],[],[],_,_=>.nil
 | .vl::as,v::vs,d::ds,h,a=>.cons a.1 (ArgV.isL (by simpa using h) a.2)
 | .sl i::as,_,_,h,a=>by simp at h
 | .fr::as,_,_,h,a=>by simp at h
 | [],_::_,_,_,h=>h.elim
 | [],[],_::_,_,h=>h.elim
 | .vl::_,[],_,_,h=>h.elim
 | .vl::_,_::_,[],_,h=>h.elim
noncomputable def gq (fr:kP):qM:=λρ=>(fr ρ).bind λp=>if p.1.length<=sizeLine then .ok (.tup p.1,p.2) else .bad
noncomputable def yu (fr:kP):qM:=λρ=>(fr ρ).bind λp=>if p.1.length<=sizeLine then .ok (.lst p.1,p.2) else .bad
theorem Gp (a:Rep C.K own F H σ ρ) (hp:H p=d6):Rep C.K own (upd F p u) (upd H p u) σ ρ/\Chg No F H (upd F p u) (upd H p u):=by
 have E:F p=none:=by
  cases q:F p with
  | none=>rfl
  | some o=>rw [a.sub p o q] at hp; cases hp
 have c:Chg No F H (upd F p u) (upd H p u):=⟨λb o e _=>by rw [qu (qx e hp)]; exact e,λb e=>by
  by_cases q:b=p;·rw [q,ql]; simp
  ·rw [qu q]; exact e,λb o e=>by rw [qu (qx e E)]; exact e,λb e=>by
  by_cases q:b=p;·exact .inr (.inl (by rw [q]; exact hp))
  ·rw [qu q] at e; exact .inl e⟩
 refine ⟨a.grow c λb o e=>?_,c⟩;by_cases q:b=p;·subst q; rw [ql] at e ⊢; exact e
 ·rw [qu q] at e ⊢; exact a.sub b o e
theorem Yo (a:Rep C.K own F H σ ρ) (hp:H p=d6):Rep C.K own F (upd H p u) σ ρ/\Chg No F H F (upd H p u)/\F p=none:=by
 have E:F p=none:=by
  cases q:F p with
  | none=>rfl
  | some o=>rw [a.sub p o q] at hp; cases hp
 have c:Chg No F H F (upd H p u):=⟨λb o e _=>by rw [qu (qx e hp)]; exact e,λb e=>by
  by_cases q:b=p;·rw [q,ql]; simp
  ·rw [qu q]; exact e,Same.refl _,λb e=>.inl e⟩
 exact ⟨a.grow c λb o e=>by rw [qu (qx e E)]; exact a.sub b o e,c,E⟩
theorem wm {x1} (h:PA X es (tAr C own as fr)) (g:(as.all λa=>decide (a=.vl))=true:=by decide):PE X (.Tuple es x1 pos) (tE C own .sh (gq fr)):=by
 refine jd (ZZ h) λσ H Q ⟨F,ρ,c,h⟩=>⟨F,ρ,c,Po.bindA h λvs F1 H1 ds ρ1 b l v h1=>?_⟩
 have i:=v.isL g;have h1:Po C own .sh σ F1 H1 (if ds.length<=sizeLine then .ok (.tup ds,ρ1) else .bad) Q:=h1;by_cases z:ds.length<=sizeLine;·rw [Aa z] at h1;refine ⟨by rw [i.length]; exact z,λp hp=>?_⟩;obtain ⟨r,c2⟩:=Gp (u:=.tup vs) b hp;exact h1 _ _ _ r c2.ofNo (.tup (.inl (.inl ql)) (i.mono c2.grow))
 ·rw [Ab z] at h1; exact h1.elim
theorem jO (h:PA X es (tAr C own as fr)) (g:(as.all λa=>decide (a=.vl))=true:=by decide):PE X (.List es pos) (tE C own .fr (yu fr)):=by
 refine jd (Ga h) λσ H Q ⟨F,ρ,c,h⟩=>⟨F,ρ,c,Po.bindA h λvs F1 H1 ds ρ1 b l v h1=>?_⟩
 have i:=v.isL g;have h1:Po C own .fr σ F1 H1 (if ds.length<=sizeLine then .ok (.lst ds,ρ1) else .bad) Q:=h1;by_cases z:ds.length<=sizeLine;·rw [Aa z] at h1;refine ⟨by rw [i.length]; exact z,λp hp=>?_⟩;obtain ⟨r,c2,E⟩:=Yo (u:=.lst vs) b hp;exact h1 _ _ _ r c2.ofNo ⟨p,rfl,hp,E,vs,ql,i⟩
 ·rw [Ab z] at h1; exact h1.elim
noncomputable def ixD:D->D->Out D
 | .lst xs,.int i=>match atI xs i with
  | some d=>.ok d
  | none=>.bad
 | .tup xs,.int i=>match atI xs i with
  | some d=>.ok d
  | none=>.bad
 | .str x,.int i=>match atI x.cps.toList i with
  | some c=>.ok (.str ⟨#[c]⟩)
  | none=>.bad
 | .dct kvs,.str x=>match (kvs.find? λkv=>decide (kv.1=cJ x)) with
  | some kv=>.ok kv.2
  | none=>.bad
 | .dct kvs,.int x=>match (kvs.find? λkv=>decide (kv.1=cI x)) with
  | some kv=>.ok kv.2
  | none=>.bad
 | _,_=>.bad
theorem IsL.atI {i:Int} (h:IsL K F vs ds) (e:L2.atI ds i=d4 d):∃ v,L2.atI vs i=d4 v/\Is K F v d:=by
 unfold L2.atI at e ⊢;rw [h.length];cases q:ixN ds.length i with
 | none=>rw [q] at e; cases e
 | some j=>rw [q] at e;exact h.getD e
theorem IsK.find {k:Key}:∀ {vs:List (Key×V)} {ds:List (Key×D)} {d:Key×D},IsK K F vs ds->(ds.find? λkv=>decide (kv.1=k))=d4 d->∃ v,Jf vs k=d4 v/\Is K F v d.2
 | _,_,_,.nil,e=>by simp at e
 | _,_,d,.cons (k:=k') (vs:=vs) h t,e=>by
  by_cases q:k'=k;·rw [List.find?_cons_of_pos (by simp [q])] at e;cases e;exact ⟨_,uC q,h⟩
  ·rw [List.find?_cons_of_neg (by simp [q])] at e;obtain ⟨v,h1,h2⟩:=IsK.find t e;exact ⟨v,by rw [uD q]; exact h1,h2⟩
theorem Qo (c:Nat):(⟨#[c]⟩:Str).length<=sizeLine:=by show 1<=sizeLine;rw [ff]; decide
def qbU (K:Frag):R2:=λx y H Q=>rIx K x y H Q\/∃ a v,x=.ref a/\DGet H a y (d4 v)/\Q v H
theorem Gq (f:X.A.units+1 < fz):IxR X (qbU X.K):=by
 refine IxR.or Gd ?_;intro value e pins s σ H x y v u Q I d c h b;obtain ⟨a,w,rfl,g,q⟩:=h;cases d;obtain ⟨T,m⟩:∃ T,s.TypeIs (.ref a) T/\T = "dict":=⟨_,gk I g,rfl⟩
 obtain ⟨m,rfl⟩:=m;exact tail_any m PySem.slot_dict_getitem.lookup (Kp f I g c λj s' i r=>⟨w,H,i,r,q⟩) b
end
variable {T:String}
section
variable {a b:Expr} {f fa fb:qM}
theorem Gr {σ:St} {x y:V} {dx b:D} {Q:VK} (n:C.K=X.K) (A:Same F H) (f:TopIs C.K F H x dx) (ty:TopIs C.K F H y b) (po:PoV C .sh F H (ixD dx b) Q):qbU X.K x y H Q:=by
 rw [n] at f ty;cases dx with
 | lst xs=>
  cases b <;> try exact po.elim
  rename_i i;obtain rfl:=ty.int;obtain ⟨a,vs,rfl,p,t⟩:=f.lst A;unfold ixD at po;cases e:L2.atI xs i with
  | none=>simp only [e] at po; exact po.elim
  | some d=>simp only [e] at po;obtain ⟨v,h1,h2⟩:=t.atI e;exact .inl (.inl ⟨a,vs,i,v,rfl,rfl,p,h1,po v F H A .refl (by rw [n]; exact h2)⟩)
 | tup xs=>
  cases b <;> try exact po.elim
  rename_i i;obtain rfl:=ty.int;obtain ⟨a,vs,rfl,p,t⟩:=f.tup A;unfold ixD at po;cases e:L2.atI xs i with
  | none=>simp only [e] at po; exact po.elim
  | some d=>simp only [e] at po;obtain ⟨v,h1,h2⟩:=t.atI e;exact .inl (.inr (.inl ⟨a,vs,i,v,rfl,rfl,p,h1,po v F H A .refl (by rw [n]; exact h2)⟩))
 | str z=>
  cases b <;> try exact po.elim
  rename_i i;obtain rfl:=ty.int;obtain ⟨rfl,h⟩:=f.str;unfold ixD at po;cases e:L2.atI z.cps.toList i with
  | none=>simp only [e] at po; exact po.elim
  | some c=>simp only [e] at po;exact .inl (.inr (.inr ⟨z,i,c,rfl,rfl,h,e,po _ F H A .refl (.str (Qo c))⟩))
 | dct kvs=>
  obtain ⟨a,kv,rfl,p,t⟩:=f.dct A;cases b with
  | int i=>
   obtain rfl:=ty.int;unfold ixD at po;cases e:(kvs.find? λkv=>decide (kv.1=cI i)) with
   | none=>simp only [e] at po; exact po.elim
   | some d=>simp only [e] at po;obtain ⟨v,h1,h2⟩:=t.find e;exact .inr ⟨a,v,rfl,by rw [<-h1]; exact DGet.k (k:=cI i) p,po v F H A .refl (by rw [n]; exact h2)⟩
  | str z=>
   obtain ⟨rfl,_⟩:=ty.str;unfold ixD at po;cases e:(kvs.find? λkv=>decide (kv.1=cJ z)) with
   | none=>simp only [e] at po; exact po.elim
   | some d=>simp only [e] at po;obtain ⟨v,h1,h2⟩:=t.find e;exact .inr ⟨a,v,rfl,by rw [<-h1]; exact DGet.k (k:=cJ z) p,po v F H A .refl (by rw [n]; exact h2)⟩
  | _=>exact po.elim
 | _=>exact po.elim
theorem qbd (y:C.K=X.K) (G:X.A.units+64 < fz) (x:PE X a (tE C own ma fa)) (u:PE X b (tE C own mb fb)) (o:gi b) (k:ma≠.any:=by decide):PE X (.Subscript a b pos) (tE C own .sh (d2 ixD fa fb)):=by
 refine jd (qa7 (Gq (by lia)) x u o) λσ H Q h=>?_;obtain ⟨F,ρ,n,h⟩:=zb (mb:=mb) k h;refine ⟨F,ρ,n,?_⟩;cases q:fa ρ with
 | ok p=>
  rw [q] at h;obtain ⟨d,ρ1⟩:=p;intro v F1 H1 f z i;obtain ⟨E,j,e,h2⟩:=h v F1 H1 f z i;refine ⟨E,j,e,?_⟩;cases g:fb j with
  | ok p=>rw [g] at h2;obtain ⟨d',l⟩:=p;intro w D B r J m;obtain ⟨M,dx,I,s,t,ty,po⟩:=h2 w D B r J m;exact Gr (σ:=σ) y s t ty po
  | exc c=>rw [g] at h2; exact h2
  | bad=>rw [g] at h2; exact h2.elim
 | exc c=>rw [q] at h; exact h
 | bad=>rw [q] at h; exact h.elim
def Jk (X:Cx) (C:Ct) (m:Mo) (f:d5) (g:D->Out D):Prop:=vG X f (λxs H Q=>∃ x F dx,xs=[x]/\Same F H/\TopIs C.K F H x dx/\PoV C m F H (g dx) Q)
theorem xc {Q:VK} {g:D->Out D} (h:tE C own m (d1 g fa) σ H Q):Je (tE C own ma fa) ZY σ H λxs H1=>∃ x F dx,xs=[x]/\Same F H1/\TopIs C.K F H1 x dx/\PoV C m F H1 (g dx) Q:=by
 obtain ⟨F,ρ,r,h⟩:=gm (ma:=ma) h;refine ⟨F,ρ,r,?_⟩;cases q:fa ρ with
 | ok p=>rw [q] at h;obtain ⟨d,ρ1⟩:=p;intro v F1 H1 a l b;obtain ⟨e,dx,A,t,po⟩:=h v F1 H1 a l b;exact ⟨v,e,dx,rfl,A,t,po⟩
 | exc c=>rw [q] at h; exact h
 | bad=>rw [q] at h; exact h.elim
theorem qy {id:String} {p:Pos} {g:D->Out D} (d:Jk X C m (.builtin id) g) (hg:Gl X x) (a:X.mg x=d6) (c:eG x=d4 (.builtin id)) (f:PE X e (tE C own ma fa)) (n:x ≠ "__name__":=by decide) (b:Dbg x:=by decide)
  (i:eh [e] X.env=[(d7,eval e X.env)]:=by exact qJ rfl):PE X (.Call (.Name x p) [e] [] pos) (tE C own m (d1 g fa)):=
 jd (vw d hg a c (qF f jw i) n b (by rw [i]; rfl) rfl) λ_ _ _ h=>xc h
theorem zi {p:Pos} {g:D->Out D} (d:Jk X C m (.type T) g) (hg:Gl X x) (a:X.mg x=d6) (c:eG x=d4 (.type T)) (f:PE X e (tE C own ma fa)) (n:x ≠ "__name__":=by decide) (b:Dbg x:=by decide)
  (i:eh [e] X.env=[(d7,eval e X.env)]:=by exact qJ rfl):PE X (.Call (.Name x p) [e] [] pos) (tE C own m (d1 g fa)):=
 jd (wc d hg a c (qF f jw i) n b (by rw [i]; rfl) rfl) λ_ _ _ h=>xc h
noncomputable def uU:D->Out D
 | .str x=>.ok (.int x.length)
 | .lst xs=>.ok (.int xs.length)
 | .tup xs=>.ok (.int xs.length)
 | .dct xs=>.ok (.int xs.length)
 | _=>.bad
theorem IsK.length:∀ {vs:List (Key×V)} {ds:List (Key×D)},IsK K F vs ds->vs.length=ds.length
 | _,_,.nil=>rfl
 | _,_,.cons _ t=>congrArg (·+1) (IsK.length t)
theorem jG (n:C.K=X.K):Jk X C .sh (.builtin "len") uU:=by
 intro pins s σ H xs us Q I r h;obtain ⟨x,F,dx,rfl,A,b,po⟩:=h;cases dx with
 | str z=>obtain ⟨rfl,c⟩:=b.str;exact xa pins s σ H _ us Q I r ⟨_,_,rfl,⟨c,rfl⟩,po _ F H A .refl (.int _)⟩
 | lst ds=>obtain ⟨a,vs,rfl,p,t⟩:=b.lst A;exact xa pins s σ H _ us Q I r ⟨_,ds.length,rfl,.inl ⟨vs,by rw [<-n]; exact p,t.length.symm⟩,po _ F H A .refl (.int _)⟩
 | tup ds=>obtain ⟨a,vs,rfl,p,t⟩:=b.tup A;exact xa pins s σ H _ us Q I r ⟨_,ds.length,rfl,.inr ⟨vs,by rw [<-n]; exact p,t.length.symm⟩,po _ F H A .refl (.int _)⟩
 | dct ds=>obtain ⟨a,vs,rfl,p,t⟩:=b.dct A;refine Kq pins s σ H _ us Q I r ⟨a,vs,rfl,p,?_⟩;rw [t.length];exact po _ F H A .refl (.int _)
 | _=>exact po.elim
noncomputable def uF:D->D->Out D
 | .int i,.int j=>.ok (.int (i+j))
 | .str x,.str y=>if x.length+y.length<=sizeLine then .ok (.str (x++y)) else .bad
 | .lst xs,.lst ys=>if xs.length+ys.length<=sizeLine then .ok (.lst (xs++ys)) else .bad
 | .tup xs,.tup ys=>if xs.length+ys.length<=sizeLine then .ok (.tup (xs++ys)) else .bad
 | _,_=>.bad
theorem vS (A:Same F H) (hp:H p=d6):Same (upd F p u) (upd H p u)/\Chg No F H (upd F p u) (upd H p u):=by
 have E:F p=none:=by
  cases q:F p with
  | none=>rfl
  | some o=>rw [A p o q] at hp; cases hp
 refine ⟨λb o e=>?_,⟨λb o e _=>by rw [qu (qx e hp)]; exact e,λb e=>?_,λb o e=>by rw [qu (qx e E)]; exact e,λb e=>?_⟩⟩
 ·by_cases q:b=p;·subst q; rw [ql] at e ⊢; exact e
  ·rw [qu q] at e ⊢; exact A b o e
 ·by_cases q:b=p;·rw [q,ql]; simp
  ·rw [qu q]; exact e
 ·by_cases q:b=p;·exact .inr (.inl (by rw [q]; exact hp))
  ·rw [qu q] at e; exact .inl e
theorem wQ (A:Same F H) (hp:H p=d6):Same F (upd H p u)/\Chg No F H F (upd H p u)/\F p=none:=by
 have E:F p=none:=by
  cases q:F p with
  | none=>rfl
  | some o=>rw [A p o q] at hp; cases hp
 refine ⟨λb o e=>by rw [qu (qx e E)]; exact A b o e,⟨λb o e _=>by rw [qu (qx e hp)]; exact e,λb e=>?_,Same.refl _,λb e=>.inl e⟩,E⟩;by_cases q:b=p;·rw [q,ql]; simp
 ·rw [qu q]; exact e
theorem gt (x y:Str):(x++y).length=x.length+y.length:=by show (x.cps++y.cps).size=_;simp [du]
theorem Xi:OpR X (fq .Add) (λx y H Q=>∃ l b xs zs,x=.ref l/\y=.ref b/\SqL X.K H l xs/\SqL X.K H b zs/\xs.length+zs.length<=sizeLine/\∀ p,H p=d6->Q (.ref p) (upd H p (.lst (xs++zs)))):=by
 intro pins s σ H x y v u Q I k r h;obtain ⟨l,b,xs,zs,rfl,rfl,h1,h2,C,q⟩:=h;cases k;cases r;obtain ⟨its,r1,p1,_⟩:=I.list h1;obtain ⟨i,r2,p2,_⟩:=I.list h2;obtain ⟨⟨cls,dd,data,sl⟩,o,f,n,hd⟩:=id p1.isList;obtain ⟨⟨j,e,g,d⟩,a,c,n2,hd2⟩:=id p2.isList;simp only at f hd c hd2;subst f hd c hd2;have t:=r1.length;have m:=r2.length;refine ib ⟨_,o,rfl⟩ ⟨_,a,rfl⟩ noFill_list_add seq_list_add PySem.F.slot_list_add PySem.F.entry_list_add (PySem.F.args_list_add_2 _ _)
  (list_addW l b its.toArray i.toArray n n2 dd e sl d (by simp only [ah]; lia)) ⟨o,a,?_⟩
 have w:its.toArray++i.toArray=(its++i).toArray:=by simp
 rw [w];exact ⟨.ref _,_,I.lnew (t':=s.toks) (r1.append r2) (by rw [ai]; exact C),rfl,q _ I.fresh⟩
theorem Xj:OpR X (fq .Add) (λx y H Q=>∃ a b ys,x=.ref a/\y=.ref b/\SqT X.K H a []/\SqT X.K H b ys/\Q (.ref b) H):=by
 intro pins s σ H x y v u Q I l r h;obtain ⟨a,b,ys,rfl,rfl,h1,h2,q⟩:=h;cases l;cases r;obtain ⟨its,r1,p1,_⟩:=I.tuple h1;obtain ⟨i,r2,p2,_⟩:=I.tuple h2;cases r1;obtain ⟨⟨cls,dd,data,sl⟩,o,j,n,hd⟩:=id p1;obtain ⟨⟨k,f,g,e⟩,c,d,n2,hd2⟩:=id p2;simp only at j hd d hd2;subst j hd d hd2;exact ib ⟨_,o,rfl⟩ ⟨_,c,rfl⟩ noFill_tuple_add seq_tuple_add cC cx (ck _ _)
  (tuple_addW0 a b _ _ n n2 dd f sl e rfl) ⟨o,c,⟨.ref b,H,I,rfl,q⟩⟩
theorem jx (n:C.K=X.K):OpD X C .sh (fq .Add) uF:=by
 intro pins s σ H x y v u Q I d r h;obtain ⟨F,dx,g,A,t,ty,po⟩:=h;cases dx with
 | int i=>
  cases g <;> try exact po.elim
  obtain rfl:=t.int;obtain rfl:=ty.int;exact ZP pins s σ H _ _ v u Q I d r ⟨_,_,rfl,rfl,po _ F H A .refl (.int _)⟩
 | str a=>
  cases g <;> try exact po.elim
  rename_i b;obtain ⟨rfl,_⟩:=t.str;obtain ⟨rfl,_⟩:=ty.str;have po:PoV C .sh F H (if a.length+b.length<=sizeLine then .ok (.str (a++b)) else .bad) Q:=po;by_cases z:a.length+b.length<=sizeLine;·rw [Aa z] at po;exact QZ pins s σ H _ _ v u Q I d r ⟨_,_,rfl,rfl,z,po _ F H A .refl (.str (by rw [gt]; exact z))⟩
  ·rw [Ab z] at po; exact po.elim
 | lst xs=>
  cases g <;> try exact po.elim
  rename_i ys;obtain ⟨a,vs,rfl,p1,f⟩:=t.lst A;obtain ⟨b,ws,rfl,p2,c⟩:=ty.lst A;have po:PoV C .sh F H (if xs.length+ys.length<=sizeLine then .ok (.lst (xs++ys)) else .bad) Q:=po;by_cases z:xs.length+ys.length<=sizeLine;·rw [Aa z] at po;refine Xi pins s σ H _ _ v u Q I d r ⟨a,b,vs,ws,rfl,rfl,by rw [<-n]; exact p1,by rw [<-n]; exact p2,by rw [f.length,c.length]; exact z,λp hp=>?_⟩;obtain ⟨s2,c2⟩:=vS (u:=.lst (vs++ws)) A hp;exact po _ _ _ s2 c2 (.lst (.inl (.inl ql)) ((f.append c).mono c2.grow))
  ·rw [Ab z] at po; exact po.elim
 | tup xs=>
  cases g <;> try exact po.elim
  rename_i ys;obtain ⟨a,vs,rfl,p1,f⟩:=t.tup A;obtain ⟨b,ws,rfl,p2,c⟩:=ty.tup A;have po:PoV C .sh F H (if xs.length+ys.length<=sizeLine then .ok (.tup (xs++ys)) else .bad) Q:=po;by_cases z:xs.length+ys.length<=sizeLine
  ·rw [Aa z] at po;cases vs with
   | nil=>
    cases f;rcases ty with ty | ⟨_,_,ty⟩
    ·exact Xj pins s σ H _ _ v u Q I d r ⟨a,b,ws,rfl,rfl,by rw [<-n]; exact p1,by rw [<-n]; exact p2,po _ F H A .refl ty⟩
    ·exact ty.elim
   | cons j vs=>
    refine YR pins s σ H _ _ v u Q I d r ⟨a,b,j::vs,ws,rfl,rfl,by rw [<-n]; exact p1,by rw [<-n]; exact p2,by simp,by rw [f.length,c.length]; exact z,λe=>?_,λe p hp=>?_⟩
    ·subst e;cases c;rcases t with t | ⟨_,_,t⟩
     ·refine po _ F H A .refl ?_;rw [aS];exact t
     ·exact t.elim
    ·obtain ⟨s2,c2⟩:=vS (u:=.tup (j::vs++ws)) A hp;exact po _ _ _ s2 c2 (.tup (.inl (.inl ql)) ((f.append c).mono c2.grow))
  ·rw [Ab z] at po; exact po.elim
 | _=>exact po.elim
end
inductive PM where
 | val | io | tk
 deriving DecidableEq
noncomputable def wn:List PM->List V->List Addr
 | .val::ms,_::vs=>wn ms vs
 | .io::ms,.ref a::vs=>a::wn ms vs
 | .tk::ms,.ref a::vs=>a::wn ms vs
 | _::ms,_::vs=>wn ms vs
 | _,_=>[]
def ArgsIs (K:Frag) (F H:Hp):List PM->List V->List D->Prop
 | [],[],[]=>True
 | .val::ms,v::vs,d::ds=>Is K F v d/\ArgsIs K F H ms vs ds
 | .io::ms,v::vs,d::ds=>(∃ a,v=.ref a/\F a=d6/\OwnIs K F H a d)/\ArgsIs K F H ms vs ds
 | .tk::ms,v::vs,d::ds=>(∃ a,v=.ref a/\F a=d6/\OwnIs K F H a d)/\ArgsIs K F H ms vs ds
 | _,_,_=>False
def vL (K:Frag) (F H:Hp):List PM->List V->List D->Prop
 | [],_,_=>True
 | .io::ms,v::vs,d::ds=>(∃ a,v=.ref a/\F a=d6/\OwnIs K F H a d)/\vL K F H ms vs ds
 | _::ms,_::vs,_::ds=>vL K F H ms vs ds
 | _,_,_=>False
abbrev LA (ms:List PM) (vs:List V):Addr->Prop:=λb=>b∈wn ms vs
def PoG (K:Frag) (cv:Str->d5) (ms:List PM) (mr:Mo) (vs:List V) (F H:Hp) (Q:VK) (E:XK) (o:Out (D×List D)):Prop:=match o with
 | .ok (d,outs)=>∀ v F' H',Same F' H'->Chg (LA ms vs) F H F' H'->vL K F' H' ms vs outs->MoIs K mr H F' H' v d->Q v H'
 | .exc c o=>∀ F' H',Same F' H'->Chg (LA ms vs) F H F' H'->vL K F' H' ms vs (o.map (·.getD .non))->E (cv c) d6 H'
 | .bad=>False
abbrev je:=List D->Out (D×List D)
def spD (K:Frag) (cv:Str->d5) (ms:List PM) (mr:Mo) (G:je):Sp:=λvs H Q E=>∃ F ds,Same F H/\ArgsIs K F H ms vs ds/\(wn ms vs).Nodup/\PoG K cv ms mr vs F H Q E (G ds)
theorem ArgsIs.length:∀ {ms:List PM} {vs:List V} {ds:List D},ArgsIs K F H ms vs ds->vs.length=ms.length/\ds.length=ms.length
 | [],[],[],_=>⟨rfl,rfl⟩
 | .val::ms,v::vs,d::ds,h=>by have:=ArgsIs.length h.2; simp [this]
 | .io::ms,v::vs,d::ds,h=>by have:=ArgsIs.length h.2; simp [this]
 | .tk::ms,v::vs,d::ds,h=>by have:=ArgsIs.length h.2; simp [this]
 | [],_::_,_,h=>h.elim
 | [],[],_::_,h=>h.elim
 | .val::_,[],_,h=>h.elim
 | .val::_,_::_,[],h=>h.elim
 | .io::_,[],_,h=>h.elim
 | .io::_,_::_,[],h=>h.elim
 | .tk::_,[],_,h=>h.elim
 | .tk::_,_::_,[],h=>h.elim
noncomputable def jf (n:Nat):List PM->List Nat
 | []=>[]
 | .val::ms=>jf (n+1) ms
 | _::ms=>n::jf (n+1) ms
noncomputable def xO (n:Nat):List PM->List Nat
 | []=>[]
 | .io::ms=>n::xO (n+1) ms
 | _::ms=>xO (n+1) ms
variable {n:Nat}
theorem wo:∀ {ms:List PM} {i:Nat},i∈jf n ms->n<=i/\i < n+ms.length:=by
 intro ms
 induction ms generalizing n with
 | nil=>intro i h; simp [jf] at h
 | cons m ms l=>
  intro i h;cases m with
  | val=>have:=l (n:=n+1) h; simp only [aw]; lia
  | io=>
   rcases aa.mp h with e | h;·simp only [aw]; lia
   ·have:=l (n:=n+1) h; simp only [aw]; lia
  | tk=>
   rcases aa.mp h with e | h;·simp only [aw]; lia
   ·have:=l (n:=n+1) h; simp only [aw]; lia
theorem WW:∀ {ms:List PM} {i:Nat},i∈xO n ms->i∈jf n ms:=by
 intro ms
 induction ms generalizing n with
 | nil=>intro i h; simp [xO] at h
 | cons m ms l=>
  intro i h;cases m with
  | val=>exact l (n:=n+1) h
  | io=>
   rcases aa.mp h with e | h;·exact aa.mpr (.inl e)
   ·exact ac _ (l (n:=n+1) h)
  | tk=>exact ac _ (l (n:=n+1) h)
theorem Jl:∀ {ms:List PM} {vs:List V} {ds:List D} {n:Nat},ArgsIs K F H ms vs ds ->(∀ j d,ds[j]?=d4 d->n+j∉jf n ms->∃ v,vs[j]?=d4 v/\Is K F v d) /\
  (∀ j d,ds[j]?=d4 d->n+j∈jf n ms->∃ a,vs[j]?=d4 (.ref a)/\F a=d6/\OwnIs K F H a d):=by
 intro ms
 induction ms with
 | nil=>intro vs ds n h; cases vs <;> cases ds <;> first | exact h.elim | (refine ⟨λj d e=>?_,λj d e=>?_⟩ <;> simp at e)
 | cons m ms l=>
  intro vs ds n h;cases vs with
  | nil=>cases m <;> exact h.elim
  | cons v vs=>
   cases ds with
   | nil=>cases m <;> exact h.elim
   | cons d ds=>
    cases m with
    | val=>
     obtain ⟨h1,h2⟩:=h;obtain ⟨i1,i2⟩:=l (n:=n+1) h2;refine ⟨λj e G b=>?_,λj e G b=>?_⟩
     ·cases j with
      | zero=>simp at G; subst G; exact ⟨v,rfl,h1⟩
      | succ j=>simpa using i1 j e (by simpa using G) (by rw [show n+1+j=n+(j+1) by lia]; exact b)
     ·cases j with
      | zero=>have:=wo (n:=n+1) b; lia
      | succ j=>simpa using i2 j e (by simpa using G) (by rw [show n+1+j=n+(j+1) by lia]; exact b)
    | io=>
     obtain ⟨⟨a,rfl,h1⟩,h2⟩:=h;obtain ⟨i1,i2⟩:=l (n:=n+1) h2;refine ⟨λj e G b=>?_,λj e G b=>?_⟩
     ·cases j with
      | zero=>exact absurd (aa.mpr (.inl rfl)) b
      | succ j=>simpa using i1 j e (by simpa using G) (λz=>b (ac _ (by rw [show n+(j+1)=n+1+j by lia]; exact z)))
     ·cases j with
      | zero=>simp at G; subst G; exact ⟨a,rfl,h1⟩
      | succ j=>
       have c:n+1+j∈jf (n+1) ms:=by
        rcases aa.mp b with z | z
        ·lia
        ·rw [show n+1+j=n+(j+1) by lia]; exact z
       simpa using i2 j e (by simpa using G) c
    | tk=>
     obtain ⟨⟨a,rfl,h1⟩,h2⟩:=h;obtain ⟨i1,i2⟩:=l (n:=n+1) h2;refine ⟨λj e G b=>?_,λj e G b=>?_⟩
     ·cases j with
      | zero=>exact absurd (aa.mpr (.inl rfl)) b
      | succ j=>simpa using i1 j e (by simpa using G) (λz=>b (ac _ (by rw [show n+(j+1)=n+1+j by lia]; exact z)))
     ·cases j with
      | zero=>simp at G; subst G; exact ⟨a,rfl,h1⟩
      | succ j=>
       have c:n+1+j∈jf (n+1) ms:=by
        rcases aa.mp b with z | z
        ·lia
        ·rw [show n+1+j=n+(j+1) by lia]; exact z
       simpa using i2 j e (by simpa using G) c
theorem KM:∀ {ms:List PM} {vs:List V} {j:Nat} {a:Addr},n+j∈jf n ms->vs[j]?=d4 (.ref a)->a∈wn ms vs:=by
 intro ms
 induction ms generalizing n with
 | nil=>intro vs j a h; simp [jf] at h
 | cons m ms l=>
  intro vs j a h e;cases vs with
  | nil=>simp at e
  | cons v vs=>
   cases j with
   | zero=>
    simp at e; subst e;cases m with
    | val=>have:=wo (n:=n+1) h; omega
    | io=>exact aa.mpr (.inl rfl)
    | tk=>exact aa.mpr (.inl rfl)
   | succ j=>
    have b:vs[j]?=d4 (.ref a):=by simpa using e
    have sub:n+1+j∈jf (n+1) ms:=by
     rw [show n+1+j=n+(j+1) by omega];cases m with
     | val=>exact h
     | io=>exact (aa.mp h).resolve_left (by omega)
     | tk=>exact (aa.mp h).resolve_left (by omega)
    have q:=l (n:=n+1) sub b;cases m <;> cases v <;> first | exact q | exact ac _ q
theorem KN:∀ {ms:List PM} {vs:List V} {a:Addr},a∈wn ms vs->∃ j,n+j∈jf n ms/\vs[j]?=d4 (.ref a):=by
 intro ms
 induction ms generalizing n with
 | nil=>intro vs a h; cases vs <;> simp [wn] at h
 | cons m ms l=>
  intro vs a h;cases vs with
  | nil=>cases m <;> simp [wn] at h
  | cons v vs=>
   have up:∀ {b},b∈wn ms vs->∃ j,n+j∈jf n (m::ms)/\(v::vs)[j]?=d4 (.ref b):=λd=>by
    obtain ⟨j,h1,h2⟩:=l (n:=n+1) d;refine ⟨j+1,?_,by simpa using h2⟩;rw [show n+(j+1)=n+1+j by lia];cases m with
    | val=>exact h1
    | io=>exact ac _ h1
    | tk=>exact ac _ h1
   cases m with
   | val=>exact up (by cases v <;> exact h)
   | io=>
    cases v with
    | ref c=>
     rcases aa.mp h with e | h;·subst e; exact ⟨0,aa.mpr (.inl rfl),rfl⟩
     ·exact up h
    | _=>exact up h
   | tk=>
    cases v with
    | ref c=>
     rcases aa.mp h with e | h;·subst e; exact ⟨0,aa.mpr (.inl rfl),rfl⟩
     ·exact up h
    | _=>exact up h
theorem WX:∀ {ms:List PM} {vs:List V} {i j:Nat} {a:Addr},(wn ms vs).Nodup->n+i∈jf n ms->n+j∈jf n ms->vs[i]?=d4 (.ref a)->vs[j]?=d4 (.ref a)->i=j:=by
 intro ms
 induction ms generalizing n with
 | nil=>intro vs i j a _ h; simp [jf] at h
 | cons m ms l=>
  intro vs i j a nd hi G e1 e;cases vs with
  | nil=>simp at e1
  | cons v vs=>
   have sub:∀ {k},n+(k+1)∈jf n (m::ms)->n+1+k∈jf (n+1) ms:=λ{k} h=>by
    rw [show n+1+k=n+(k+1) by lia];cases m with
    | val=>exact h
    | io=>exact (aa.mp h).resolve_left (by lia)
    | tk=>exact (aa.mp h).resolve_left (by lia)
   have d:(wn ms vs).Nodup:=by cases m <;> cases v <;> first | exact nd | exact (aH.mp nd).2
   have c:∀ {k b},n+0∈jf n (m::ms)->v=.ref b->n+(k+1)∈jf n (m::ms)->vs[k]?=d4 (.ref b)->False:=λ{k b} o f g p=>by
    subst f;have q:=KM (n:=n+1) (sub g) p;cases m with
    | val=>have:=wo (n:=n+1) o; lia
    | io=>exact (aH.mp nd).1 q
    | tk=>exact (aH.mp nd).1 q
   cases i with
   | zero=>
    cases j with
    | zero=>rfl
    | succ j=>exact (c hi (by simpa using e1) G (by simpa using e)).elim
   | succ i=>
    cases j with
    | zero=>exact (c G (by simpa using e) hi (by simpa using e1)).elim
    | succ j=>exact congrArg (·+1) (l (n:=n+1) d (sub hi) (sub G) (by simpa using e1) (by simpa using e))
noncomputable def qf (N:List Str) (ds:List D):Sl:=ds.map d4++aj (N.length - ds.length) d6
variable {α:Type} {N:List Str}
theorem jg {xs:List α} {x:α}:(xs.map d4++aj (N.length - xs.length) d6)[i]?=d4 (d4 x)↔xs[i]?=d4 x:=by
 by_cases h:i < xs.length
 ·rw [bD (by simpa using h),aM];cases e:xs[i]? with
  | none=>simp
  | some y=>simp
 ·rw [bn (by simpa using h),bj];have e:xs[i]?=none:=bp.mpr (by lia);rw [e];split <;> simp
variable {ms:List PM}
theorem KO (A:Same F H) (r:ArgsIs K F H ms vs ds) (nd:(wn ms vs).Nodup):Rep K (jf 0 ms) F H (kh N vs) (qf N ds):=by
 obtain ⟨h1,h2⟩:=Jl (n:=0) r;obtain ⟨c,l⟩:=r.length;refine ⟨A,by simp [kh,qf,c,l],λi d hi e=>?_,λi d hi e=>?_,λi hi=>?_,λi j a hi G e1 f=>?_⟩;·obtain ⟨v,a,b⟩:=h1 i d (jg.mp e) (by simpa using hi);exact ⟨v,jg.mpr a,b⟩
 ·obtain ⟨v,a,b⟩:=h2 i d (jg.mp e) (by simpa using hi);exact ⟨v,jg.mpr a,b⟩
 ·have q:=wo hi;have hl:i < ds.length:=by lia
  exact ⟨ds[i],jg.mpr (by simp [hl])⟩
 ·exact WX (n:=0) nd (by simpa using hi) (by simpa using G) (jg.mp e1) (jg.mp f)
theorem WY:OA (jf 0 ms) (kh N vs) b↔LA ms vs b:=by
 constructor;·rintro ⟨i,hi,e⟩;exact KM (n:=0) (by simpa using hi) (jg.mp e)
 ·intro h;obtain ⟨j,h1,h2⟩:=KN (n:=0) h;exact ⟨j,by simpa using h1,jg.mpr h2⟩
noncomputable def jh (ρ:Sl):Nat->List PM->List D
 | _,[]=>[]
 | n,.io::ms=>((ρ[n]?).getD d6).getD .non::jh ρ (n+1) ms
 | n,_::ms=>.non::jh ρ (n+1) ms
theorem Xk {σ:St} {N:List Str}:∀ {ms:List PM} {vs:List V} {n:Nat},vs.length=ms.length->(∀ i∈xO n ms,∃ d a,ρ[i]?=d4 (d4 d)/\vs[i - n]?=d4 (V.ref a)/\F a=d6/\OwnIs K F H a d)->vL K F H ms vs (jh ρ n ms):=by
 intro ms
 induction ms with
 | nil=>intro vs n _ _; trivial
 | cons m ms l=>
  intro vs n hl h;cases vs with
  | nil=>simp at hl
  | cons v vs=>
   have rest:(∀ i∈xO (n+1) ms,i∈xO n (m::ms))->vL K F H ms vs (jh ρ (n+1) ms):=λc=>by refine l (by simpa using hl) λi hi=>?_;obtain ⟨d,a,e1,j,E⟩:=h i (c i hi);have q:=wo (WW hi);refine ⟨d,a,e1,?_,E⟩;rw [show i - n=(i - (n+1))+1 by lia] at j;simpa using j
   cases m with
   | val=>exact rest λi hi=>hi
   | io=>obtain ⟨d,a,e1,j,E⟩:=h n (aa.mpr (.inl rfl));refine ⟨⟨a,by simpa using j,E.1,?_⟩,rest λi hi=>ac _ hi⟩;rw [e1];exact E.2
   | tk=>exact rest λi hi=>hi
noncomputable def Fl.val:Fl->Option D
 | .nx=>d4 .non
 | .rt d=>d4 d
 | _=>d6
noncomputable def jA (N:List Str) (ms:List PM) (f:qP) (ds:List D):Out (D×List D):=match f (qf N ds) with
 | .ok (.nx,ρ)=>.ok (.non,jh ρ 0 ms)
 | .ok (.rt d,ρ)=>.ok (d,jh ρ 0 ms)
 | .ok _=>.bad
 | .exc c ρ=>.exc c ((jh ρ 0 ms).map d4)
 | .bad=>.bad
theorem Qp:∀ (l:List D),(l.map d4).map (λx:Option D=>x.getD .non)=l
 | []=>rfl
 | a::l=>congrArg (a::·) (Qp l)
def Out.le {α:Type} (a b:Out α):Prop:=a=.bad\/a=b
theorem KQ {f:qP} {Q:VK} {o:Out (D×List D)} (j:C.io=xO 0 ms) (l:C.ox=C.io) (r:C.mr=.sh\/∀ ρ,(f (qf N ds))≠.ok (.nx,ρ)) (g:∀ i∈xO 0 ms,i∈own') (A:Same F H) (t:ArgsIs C.K F H ms vs ds) (nd:(wn ms vs).Nodup)
  (G:Out.le o (jA N ms f ds)) (h:PoG C.K C.cv ms C.mr vs F H Q C.E o):tSt C (jf 0 ms) own' f { nx:=λ_ H'=>Q .non H',rt:=Q } (kh N vs) H:=by
 refine ⟨F,qf N ds,KO A t nd,?_⟩;have hl:=t.length.1;have ch:∀ {F' H'},Chg (OA (jf 0 ms) (kh N vs)) F H F' H'->Chg (LA ms vs) F H F' H':=λc=>c.mono λx z=>WY.mp z;have b:∀ {σ':St} {ρ':Sl} {F' H':Hp},JK C.K C.io F' H' σ' ρ'->(∀ i∈C.io,σ'[i]?=(kh N vs)[i]?)->vL C.K F' H' ms vs (jh ρ' 0 ms):=λ{σ' ρ' F' H'} io e=>by
  refine Xk (N:=N) (σ:=σ') hl λi hi=>?_;have k:i∈C.io:=by rw [j]; exact hi
  obtain ⟨d,a,e1,m,y⟩:=io i k;refine ⟨d,a,e1,?_,y⟩;rw [e i k] at m;exact jg.mp m
 rcases G with e | e;·subst e; exact h.elim
 ·subst e;unfold jA at h;cases q:f (qf N ds) with
  | ok p=>
   rw [q] at h;obtain ⟨w,ρ'⟩:=p;cases w with
   | nx=>have u:C.mr=.sh:=r.resolve_right λz=>z ρ' q;exact λσ' F' H' n=>h .non F' H' n.rep.sub (ch n.chg) (b (n.rep.ioIs (by rw [j]; exact g)) n.io) (by rw [u]; exact .non)
   | rt d=>exact λv σ' F' H' s io c e mo=>h v F' H' s (ch c) (b io e) mo
   | bk=>exact h.elim
   | ct=>exact h.elim
  | exc c ρ'=>rw [q] at h;exact λF' H' s io U=>h F' H' s (ch U) (by rw [Qp]; exact b (σ':=kh N vs) (by rw [<-l]; exact io) λ_ _=>rfl)
  | bad=>rw [q] at h; exact h.elim
def WZ (K:Frag) (cv:Str->d5) (E:XK) (ms:List PM) (mr:Mo):Ct:=⟨K,cv,E,xO 0 ms,mr,[],xO 0 ms,λ_ h=>h⟩
theorem qaz {P:eH} {w:eI} {K:Frag} {mg:Str->Option d5} {base:Heap} {CX:CXT} {x qual:Str} {st:Stmt} {f:Addr} {fd:fA} {N ps:List Str} {k:Nat} {cv:Str->d5} {ms:List PM} {mr:Mo} {own':List Nat} {fb:qP} {G:je}
  (F:Fun K x qual st f fd) (S:FnScope N ps (qv st)) (hl:ms.length=ps.length) (g:∀ i∈xO 0 ms,i∈own') (r:mr=.sh\/∀ ds ρ,(fb (qf N ds))≠.ok (.nx,ρ))
  (c:∀ (cdv:d5) (A:eZ) (outer:List Env) (s:d9) (H:Hp) (E:XK),Room k (A.deeper (fw qual (qv st) s.heap.objs.size f cdv)) ->PSs (YM CX P w K mg base N qual (qv st) f cdv A outer s H E) (jb st) (tSt (WZ K cv E ms mr) (jf 0 ms) own' fb))
  (j:∀ ds,Out.le (G ds) (jA N ms fb ds)):FnOk P w K mg base CX (k+1) f fd ps (spD K cv ms mr G):=by
 obtain ⟨oc,od,kV,doc,pm,an,cdv,ct,osl,rfl,l,d⟩:=F.ex;refine qa4 l d S (λvs H Q E h=>?_) λA outer s H vs Q E e p=>?_;·obtain ⟨F,ds,_,a,_⟩:=h;rw [a.length.1,hl]
 ·obtain ⟨F1,ds,b,a,nd,h⟩:=p;refine ⟨_,c cdv A outer s H E e,?_⟩;exact KQ (C:=WZ K cv E ms mr) rfl rfl (r.imp id λz ρ=>z ds ρ) g b a nd (j ds) h
noncomputable def wO:AK->PM
 | .vl=>.val
 | .sl _=>.io
 | .fr=>.tk
noncomputable def jB:List AK->List D->Sl->Option (List D)
 | [],[],_=>d4 []
 | .sl i::as,_::ds,ρ=>match ρ[i]? with
  | some (d4 d)=>(jB as ds ρ).map (d::·)
  | _=>d6
 | .vl::as,d::ds,ρ=>(jB as ds ρ).map (d::·)
 | .fr::as,d::ds,ρ=>(jB as ds ρ).map (d::·)
 | _,_,_=>d6
noncomputable def uG:List AK->List D->Sl->Sl
 | .sl i::as,d::outs,ρ=>uG as outs (ρ.set i (d4 d))
 | _::as,_::outs,ρ=>uG as outs ρ
 | _,_,ρ=>ρ
noncomputable def qC:List AK->List Nat
 | []=>[]
 | .sl i::as=>i::qC as
 | _::as=>qC as
noncomputable def frA:List AK->Nat
 | []=>0
 | .fr::as=>frA as+1
 | _::as=>frA as
section
theorem wq:∀ {as:List AK} {vs:List V} {ds f:List D},Rep K own F H σ ρ->(∀ i∈qC as,i∈own)->ArgV K H0 F H σ as vs ds->jB as ds ρ=d4 f->ArgsIs K F H (as.map wO) vs f
 | [],vs,ds,f,rp,hs,av,e=>by cases vs <;> cases ds <;> first | exact av.elim | (simp [jB] at e; subst e; trivial)
 | a::as,[],ds,f,rp,hs,av,e=>by cases a <;> exact av.elim
 | a::as,v::vs,[],f,rp,hs,av,e=>by cases a <;> exact av.elim
 | .vl::as,v::vs,d::ds,f,rp,hs,av,e=>by
  cases q:jB as ds ρ with
  | none=>simp [jB,q] at e
  | some l=>
   have e:d::l=f:=by simpa [jB,q] using e
   subst e;exact ⟨av.1,wq rp hs av.2 q⟩
 | .fr::as,v::vs,d::ds,f,rp,hs,av,e=>by
  cases q:jB as ds ρ with
  | none=>simp [jB,q] at e
  | some l=>
   have e:d::l=f:=by simpa [jB,q] using e
   subst e;obtain ⟨a,h1,_,h2,h⟩:=av.1;exact ⟨⟨a,h1,h2,h⟩,wq rp hs av.2 q⟩
 | .sl i::as,v::vs,d::ds,f,rp,hs,av,e=>by
  obtain ⟨h1,_,b⟩:=av;have hi:i∈own:=hs i (aa.mpr (.inl rfl));obtain ⟨d',hd⟩:=rp.opn i hi;obtain ⟨a,e1,c,E⟩:=rp.ow i d' hi hd;rw [h1] at e1;cases e1;cases q:jB as ds ρ with
  | none=>simp [jB,q,hd] at e
  | some l=>
   have e:d'::l=f:=by simpa [jB,q,hd] using e
   subst e;exact ⟨⟨a,rfl,c,E⟩,wq rp (λj G=>hs j (ac _ G)) b q⟩
theorem jP:∀ {as:List AK} {vs:List V} {ds:List D} {b:Addr},ArgV K H0 F H σ as vs ds->b∈wn (as.map wO) vs->(∃ i∈qC as,σ[i]?=d4 (d4 (V.ref b)))\/(H0 b=d6/\frA as≠0/\H b≠d6/\F b=d6)
 | [],vs,ds,b,av,h=>by cases vs <;> simp [wn] at h
 | a::as,[],ds,b,av,h=>by cases a <;> exact av.elim
 | a::as,v::vs,[],b,av,h=>by cases a <;> exact av.elim
 | .vl::as,v::vs,d::ds,b,av,h=>by
  have h:b∈wn (as.map wO) vs:=by cases v <;> exact h
  exact jP (as:=as) av.2 h
 | .fr::as,v::vs,d::ds,b,av,h=>by
  obtain ⟨⟨a,rfl,f,E,o⟩,c⟩:=av;have h:b∈a::wn (as.map wO) vs:=h;rcases aa.mp h with e | h;·subst e; exact .inr ⟨f,by simp [frA],o.there,E⟩
  ·rcases jP c h with z | ⟨z,_,z2⟩
   ·exact .inl z
   ·exact .inr ⟨z,by simp [frA],z2⟩
 | .sl i::as,v::vs,d::ds,b,av,h=>by
  obtain ⟨h1,_,c⟩:=av;have up:b∈wn (as.map wO) vs->(∃ j∈qC (.sl i::as),σ[j]?=d4 (d4 (V.ref b)))\/(H0 b=d6/\frA (.sl i::as)≠0/\H b≠d6/\F b=d6):=λh=>by
   rcases jP c h with ⟨j,hj,e⟩ | z;·exact .inl ⟨j,ac _ hj,e⟩
   ·exact .inr z
  cases v with
  | ref a=>
   have h:b∈a::wn (as.map wO) vs:=h;rcases aa.mp h with e | h;·subst e; exact .inl ⟨i,aa.mpr (.inl rfl),h1⟩
   ·exact up h
  | _=>exact up h
theorem vy:∀ {as:List AK} {vs:List V} {ds:List D},Rep K own F H σ ρ->(∀ x,OA own σ x->H0 x≠d6)->(∀ i∈qC as,i∈own)->(qC as).Nodup->frA as<=1->ArgV K H0 F H σ as vs ds->(wn (as.map wO) vs).Nodup
 | [],vs,ds,rp,h0,hs,nd,hf,av=>by cases vs <;> simp [wn]
 | a::as,[],ds,rp,h0,hs,nd,hf,av=>by cases a <;> exact av.elim
 | a::as,v::vs,[],rp,h0,hs,nd,hf,av=>by cases a <;> exact av.elim
 | .vl::as,v::vs,d::ds,rp,h0,hs,nd,hf,av=>by have q:=vy (as:=as) rp h0 hs nd hf av.2;cases v <;> exact q
 | .fr::as,v::vs,d::ds,rp,h0,hs,nd,hf,av=>by
  have f:frA as=0:=by simp only [frA] at hf; lia
  obtain ⟨⟨a,rfl,C,E,o⟩,b⟩:=av;show (a::wn (as.map wO) vs).Nodup;refine aH.mpr ⟨λz=>?_,vy rp h0 hs nd (by lia) b⟩;rcases jP b z with ⟨i,hi,e⟩ | ⟨_,n,_⟩
  ·exact h0 a ⟨i,hs i hi,e⟩ C
  ·exact n f
 | .sl i::as,v::vs,d::ds,rp,h0,hs,nd,hf,av=>by
  obtain ⟨h1,_,b⟩:=av;have h:∀ j∈qC as,j∈own:=λj G=>hs j (ac _ G);have hi:i∈own:=hs i (aa.mpr (.inl rfl));obtain ⟨g,c⟩:=aH.mp nd;have q:=vy rp h0 h c hf b;cases v with
  | ref a=>
   show (a::wn (as.map wO) vs).Nodup;refine aH.mpr ⟨λz=>?_,q⟩;rcases jP b z with ⟨j,G,e⟩ | ⟨n,_⟩
   ·exact g (by rw [rp.dis i j a hi (h j G) h1 e]; exact G)
   ·exact h0 a ⟨i,hi,h1⟩ n
  | _=>exact q
theorem kE:∀ {as:List AK} {b:List D} {ρ:Sl} {i:Nat},i∉qC as->(uG as b ρ)[i]?=ρ[i]?
 | [],b,ρ,i,h=>by cases b <;> rfl
 | a::as,[],ρ,i,h=>by cases a <;> rfl
 | .vl::as,d::b,ρ,i,h=>kE (as:=as) h
 | .fr::as,d::b,ρ,i,h=>kE (as:=as) h
 | .sl j::as,d::b,ρ,i,h=>by
  have h':i≠j/\i∉qC as:=by simpa [qC] using h
  show (uG as b (ρ.set j (d4 d)))[i]?=_;rw [kE h'.2,af (be h'.1)]
theorem uH:∀ {as:List AK} {b:List D} {ρ:Sl},(uG as b ρ).length=ρ.length
 | [],b,ρ=>by cases b <;> rfl
 | a::as,[],ρ=>by cases a <;> rfl
 | .vl::as,d::b,ρ=>uH (as:=as)
 | .fr::as,d::b,ρ=>uH (as:=as)
 | .sl j::as,d::b,ρ=>by show (uG as b (ρ.set j (d4 d))).length=_;rw [uH,cV]
theorem xf {F' H':Hp}:∀ {as:List AK} {vs:List V} {ds b:List D} {ρ:Sl},(qC as).Nodup->(∀ i∈qC as,i < ρ.length)->ArgV K H0 F H σ as vs ds->vL K F' H' (as.map wO) vs b->∀ i∈qC as,∃ d a,(uG as b ρ)[i]?=d4 (d4 d)/\σ[i]?=d4 (d4 (V.ref a))/\F' a=d6/\OwnIs K F' H' a d
 | [],vs,ds,b,ρ,nd,hl,av,o,i,hi=>by simp [qC] at hi
 | a::as,[],ds,b,ρ,nd,hl,av,o,i,hi=>by cases a <;> exact av.elim
 | a::as,v::vs,[],b,ρ,nd,hl,av,o,i,hi=>by cases a <;> exact av.elim
 | a::as,v::vs,d::ds,[],ρ,nd,hl,av,o,i,hi=>by cases a <;> exact o.elim
 | .vl::as,v::vs,d::ds,u::b,ρ,nd,hl,av,o,i,hi=>xf (as:=as) nd hl av.2 o i hi
 | .fr::as,v::vs,d::ds,u::b,ρ,nd,hl,av,o,i,hi=>xf (as:=as) nd hl av.2 o i hi
 | .sl j::as,v::vs,d::ds,u::b,ρ,nd,hl,av,o,i,hi=>by
  obtain ⟨g,n⟩:=aH.mp nd;obtain ⟨h1,_,c⟩:=av;obtain ⟨⟨a,e,E,ow⟩,o2⟩:=o;subst e;rcases aa.mp hi with e | hi;·subst e;refine ⟨u,a,?_,h1,E,ow⟩;show (uG as b (ρ.set i (d4 u)))[i]?=_;rw [kE g,ap (hl i (aa.mpr (.inl rfl)))]
  ·exact xf (as:=as) (ρ:=ρ.set j (d4 u)) n (λk h=>by rw [cV]; exact hl k (ac _ h)) c o2 i hi
end
noncomputable def qw (as:List AK) (G:je) (fr:kP):qM:=λρ=>(fr ρ).bind λp=>match jB as p.1 p.2 with
 | some ds=>match G ds with
  | .ok q=>.ok (q.1,uG as q.2 p.2)
  | .exc c o=>.exc c (uG as (o.map (·.getD .non)) p.2)
  | .bad=>.bad
 | none=>.bad
variable {mr:Mo} {CX:CXT} {f:Addr} {fd:fA} {ps:List Str}
section
variable {G:je} {fr:kP}
theorem Qq {F' H':Hp} {b:List D} (r:Rep C.K own F H σ ρ) (m:∀ x,OA own σ x->H0 x≠d6) (h:∀ i∈qC as,i∈own) (nd:(qC as).Nodup) (k:ArgV C.K H0 F H σ as vs ds)
  (A:Same F' H') (c:Chg (LA (as.map wO) vs) F H F' H') (o:vL C.K F' H' (as.map wO) vs b):Rep C.K own F' H' σ (uG as b ρ):=by
 have pin:=xf (ρ:=ρ) nd (λi hi=>by obtain ⟨d,e⟩:=r.opn i (h i hi);exact (ak.mp e).1) k o;refine ⟨A,by rw [uH]; exact r.len,λi d hi e=>?_,λi d hi e=>?_,λi hi=>?_,r.dis⟩;·rw [kE (λz=>hi (h i z))] at e;obtain ⟨v,h1,h2⟩:=r.val i d hi e;exact ⟨v,h1,h2.mono c.grow⟩
 ·by_cases q:i∈qC as;·obtain ⟨d',a,e1,s,E,p⟩:=pin i q;rw [e1] at e;cases e;exact ⟨a,s,E,p⟩
  ·rw [kE q] at e;obtain ⟨a,h1,h2,f⟩:=r.ow i d hi e;have l:¬LA (as.map wO) vs a:=λz=>by
    rcases jP k z with ⟨j,G,t⟩ | ⟨n,_⟩
    ·exact q (by rw [r.dis i j a hi (h j G) h1 t]; exact G)
    ·exact m a ⟨i,hi,h1⟩ n
   refine ⟨a,h1,?_,f.grow c.grow λo' g=>c.keep a o' g l⟩;cases g:F' a with
   | none=>rfl
   | some u=>
    rcases c.new a (by rw [g]; simp) with z | z | z;·exact absurd h2 z
    ·exact absurd z f.there
    ·exact absurd z l
 ·by_cases q:i∈qC as;·obtain ⟨d',a,e1,_⟩:=pin i q;exact ⟨d',e1⟩
  ·rw [kE q];exact r.opn i hi
theorem gu {Q:VK} (l:∀ i∈C.ox,i∈own) (s:∀ i∈qC as,i∈own) (nd:(qC as).Nodup) (u:frA as<=1) (h:tE C own mr (qw as G fr) σ H Q):tAr C own as fr σ H λvs H1=>spD C.K C.cv (as.map wO) mr G (vs++[]) H1 Q C.E:=by
 obtain ⟨F,ρ,t,h⟩:=h;have m:∀ x,OA own σ x->H x≠none:=λx z=>(t.OA_there z).1;refine ⟨F,ρ,t,?_⟩;unfold qw at h;cases k:fr ρ with
 | ok p=>
  rw [k] at h;obtain ⟨ds,ρ1⟩:=p;intro vs F1 H1 a r g;rw [aS];have h1:Po C own mr σ F H (match jB as ds ρ1 with | some ds=>(match G ds with | .ok q=>.ok (q.1,uG as q.2 ρ1) | .exc c o=>.exc c (uG as (o.map (·.getD .non)) ρ1) | .bad=>.bad) | none=>.bad) Q:=h;cases q:jB as ds ρ1 with
  | none=>simp only [q] at h1; exact h1.elim
  | some f=>
   simp only [q] at h1;have lo:∀ x,LA (as.map wO) vs x->OA own σ x\/H x=none:=λx z=>by
    rcases jP g z with ⟨i,hi,e⟩ | ⟨n,_⟩
    ·exact .inl ⟨i,s i hi,e⟩
    ·exact .inr n
   refine ⟨F1,f,a.sub,wq a s g q,vy a m s nd u g,?_⟩;cases j:G f with
   | ok p=>rw [j] at h1;obtain ⟨d,b⟩:=p;exact λv F' H' A c o mo=>h1 v F' H' (Qq a m s nd g A c o) (r.trans c lo) (MoIs.back (Ha:=H1) r mo)
   | exc x o=>rw [j] at h1; exact λF' H' A c b=>h1 F' H' A ((Qq a m s nd g A c b).ioIs l) (r.trans c lo)
   | bad=>rw [j] at h1; exact h1.elim
 | exc c=>rw [k] at h; exact h
 | bad=>rw [k] at h; exact h.elim
theorem Xl {k:Nat} {p pos:Pos} (F:FnOk X.prog X.w X.K X.mg X.base CX k f fd ps (spD C.K C.cv ms mr G)) (r:Room k X.A) (hg:Gl X x) (m:X.mg x=d4 (.ref f)) (a:fU X.K (.ref f)=d8) (j:Binds X.K fd ps []) (hx:jr CX X C.E)
  (n:PA X (e::es) (tAr C own as fr)) (s:ms=as.map wO:=by rfl) (c:∀ i∈qC as,i∈own:=by decide) (nd:(qC as).Nodup:=by decide) (d:frA as<=1:=by decide) (o:∀ i∈C.ox,i∈own:=by exact jm rfl) (b:Dbg x:=by decide) (g:eh (e::es) X.env=(d7,eval e X.env)::eh es X.env:=by exact qK rfl)
  (l:(e9 pos (eh es X.env)).any (·.1)=false:=by exact jY rfl):PE X (.Call (.Name x p) (e::es) [] pos) (tE C own mr (qw as G fr)):=by
 subst s;exact jd (YK F r hg m a j .nil hx n b g l) λσ H Q h=>gu o c nd d h
end
structure ItIs (K:Frag) (F:Hp) (J:It) (ds:List D):Prop where
 go:∀ i H,i < ds.length->Same F H->J.go i H
 yld:∀ i Fi H x H' d,ds[i]?=d4 d->Same F Fi->Same Fi H->J.yld i H x H'->∃ F',Chg No Fi H F' H'/\Same F' H'/\Is K F' x d
 stop:∀ i H,ds.length<=i->Same F H->J.stop i H
def PoI (C:Ct) (own:List Nat) (σ:St) (F H:Hp) (r:Out (List D×Sl)) (R:It->Hp->Prop):Prop:=match r with
 | .ok (ds,ρ')=>∀ J F' H',Rep C.K own F' H' σ ρ'->Chg (OA own σ) F H F' H'->ItIs C.K F' J ds->R J H'
 | .exc c ρ'=>∀ F' H',Same F' H'->JK C.K C.ox F' H' σ ρ'->Chg (OA own σ) F H F' H'->C.E (C.cv c) d6 H'
 | .bad=>False
def tIt (C:Ct) (own:List Nat) (f:kP):TI:=λσ H R=>∃ F ρ,Rep C.K own F H σ ρ/\PoI C own σ F H (f ρ) R
noncomputable def Ua:D->Out (List D)
 | .lst xs=>.ok xs
 | .tup xs=>.ok xs
 | _=>.bad
noncomputable def qcv (f:qM):kP:=λρ=>(f ρ).bind λp=>(Ua p.1).bind λds=>.ok (ds,p.2)
theorem PoI.bindV {m:Mo} {o:za} {k:D×Sl->Out (List D×Sl)} {Q:It->Hp->Prop} {R:VK} (hp:PoI C own σ F H (o.bind k) Q)
  (h:∀ v F1 H1 d ρ1,Rep C.K own F1 H1 σ ρ1->Chg (OA own σ) F H F1 H1->MoIs C.K m H F1 H1 v d->PoI C own σ F H (k (d,ρ1)) Q->R v H1):Po C own m σ F H o R:=by
 cases o with
 | ok p=>exact λv F1 H1 a c mo=>h v F1 H1 p.1 p.2 a c mo hp
 | exc x=>exact hp
 | bad=>exact hp.elim
variable {tg iter:Expr} {xs:List V}
section
variable {f:qM}
theorem Gs {t t':TI} (h:PI X tg e t) (i:∀ σ H Q,t' σ H Q->t σ H Q):PI X tg e t':=⟨λpins s σ H R I w=>h pins s σ H R I (i σ H R w)⟩
theorem Gt (p:SqL K F a xs) (t:IsL K F xs ds):ItIs K F (Itl K a) ds where
 go:=λi H hi s=>by
  have hx:i < xs.length:=by rw [t.length]; exact hi
  exact ⟨xs,xs[i],s.seq p,by simp [hx]⟩
 yld:=λi Fi H x H' d e s1 s2 y=>by obtain ⟨rfl,y⟩:=y;obtain ⟨v,h1,h2⟩:=t.getD e;have q:=y xs ((s1.trans s2).seq p);rw [h1] at q;cases q;exact ⟨Fi,.refl,s2,h2.mono s1⟩
 stop:=λi H hi s=>⟨xs,s.seq p,by rw [t.length]; exact hi⟩
theorem Gu (p:SqT K F a xs) (t:IsL K F xs ds):ItIs K F (Itt K a) ds where
 go:=λi H hi s=>by
  have hx:i < xs.length:=by rw [t.length]; exact hi
  exact ⟨xs,xs[i],qO s p,by simp [hx]⟩
 yld:=λi Fi H x H' d e s1 s2 y=>by obtain ⟨rfl,y⟩:=y;obtain ⟨v,h1,h2⟩:=t.getD e;have q:=y xs (qO (s1.trans s2) p);rw [h1] at q;cases q;exact ⟨Fi,.refl,s2,h2.mono s1⟩
 stop:=λi H hi s=>⟨xs,qO s p,by rw [t.length]; exact hi⟩
noncomputable def zZ (lo:Int) (n:Nat):List D:=(aZ n).map λk=>.int (lo+(k:Nat))
theorem Gv {lo:Int}:ItIs K F (Itr lo n) (zZ lo n) where
 go:=λi H hi _=>by
  have:i < n:=by simpa [zZ] using hi
  exact this
 yld:=λi Fi H x H' d e s1 s2 y=>by
  obtain ⟨rfl,rfl⟩:=y;have e:d=.int (lo+i):=by
   unfold zZ at e;rw [aM] at e;cases q:(aZ n)[i]? with
   | none=>rw [q] at e; cases e
   | some k=>
    rw [q] at e;have h:k=i:=by have:=ak.mp q;obtain ⟨_,z⟩:=this;simpa using z.symm
    subst h;exact (ax.inj e).symm
  subst e;exact ⟨Fi,.refl,s2,.int _⟩
 stop:=λi H hi _=>by
  have:n<=i:=by simpa [zZ] using hi
  exact this
noncomputable def kF (f:qM):kP:=λρ=>(f ρ).bind λp=>match p.1 with
 | .int j=>if -(2 ^ 62)<=j/\j < 2 ^ 62 then .ok (zZ 0 j.toNat,p.2) else .bad
 | _=>.bad
theorem wR {p:Pos} (hg:Gl X "range") (b:X.mg "range"=d6) (h:PE X e (tE C own m f)) (s:eh [e] X.env=[(d7,eval e X.env)]:=by exact qJ rfl):PI X tg (.Call (.Name "range" p) [e] [] pos) (tIt C own (kF f)):=by
 refine Gs (JX hg b (qF h jw s) s) λσ H R ⟨F,ρ,r,h⟩=>⟨F,ρ,r,PoI.bindV h λv F1 H1 d ρ1 a l c h1=>?_⟩
 cases d with
 | int j=>
  obtain rfl:=c.top.int;have h1:PoI C own σ F H (if -(2 ^ 62)<=j/\j < 2 ^ 62 then .ok (zZ 0 j.toNat,ρ1) else .bad) R:=h1;by_cases z:-(2 ^ 62)<=j/\j < 2 ^ 62;·rw [Aa z] at h1;exact ⟨j,rfl,z.1,z.2,h1 _ F1 H1 a l Gv⟩
  ·rw [Ab z] at h1; exact h1.elim
 | _=>exact h1.elim
def tGd (C:Ct) (own:List Nat) (g:D->Sl->Out Sl):TG:=λv σ H Q=>∃ F ρ d,Rep C.K own F H σ ρ/\Is C.K F v d/\∃ ρ',g d ρ=.ok ρ'/\∀ σ',Rep C.K own F H σ' ρ'->(∀ b,OA own σ' b->OA own σ b)->(∀ i∈C.io,σ'[i]?=σ[i]?)->Q σ' H
theorem qbe {t t':TG} (h:PG X e t) (i:∀ v σ H Q,t' v σ H Q->t v σ H Q):PG X e t':=⟨λpins s σ H v u Q I r w=>h pins s σ H v u Q I r (i v σ H Q w)⟩
noncomputable def gNm (i:Nat):D->Sl->Out Sl:=λd ρ=>if i < ρ.length then .ok (ρ.set i (d4 d)) else .bad
theorem yG {own:List Nat} (h:i∉own):kW own [i]=own:=by unfold kW;rw [List.filter_eq_self];intro j G;simp only [bg,decide_eq_true_eq];exact λz=>h (by rw [<-z]; exact G)
theorem Qr (c:X.N.Nodup) (hi:X.N[i]?=d4 x) (hx:Loc X.env.scope x) (s:i∉own:=by decide) (o:i∉C.io:=by exact uQ rfl) (h:X.fn x=d8\/X.env.scope.names.lookup x=d4 .local:=by first | exact .inl rfl | exact .inr rfl):PG X (.Name x pos) (tGd C own (gNm i)):=by
 refine qbe (YE c hi hx h) λv σ H Q ⟨F,ρ,d,a,is,ρ',e,k⟩=>?_;unfold gNm at e;by_cases z:i < ρ.length
 ·rw [Aa z] at e;cases e;have r2:=a.put z is;rw [yG s] at r2;refine k _ r2 (λb q=>?_) λj G=>af λq=>o (by rw [q]; exact G);have g:OA (kW own [i]) (σ.set i (d4 v)) b:=by rw [yG s]; exact q
  exact g.put
 ·rw [Ab z] at e; cases e
noncomputable def qcw (fe:qM) (g:D->Sl->Out Sl):qP:=λρ=>(fe ρ).bind λp=>match g p.1 p.2 with
 | .ok ρ'=>.ok (.nx,ρ')
 | _=>.bad
noncomputable def yw (g:D->Sl->Out Sl) (fb:qP):List D->qP
 | [],ρ=>.ok (.nx,ρ)
 | d::ds,ρ=>(g d ρ).plain.bind λρ1=>(fb ρ1).bind λp=>match p.1 with
  | .nx=>yw g fb ds p.2
  | .ct=>yw g fb ds p.2
  | .bk=>.ok (.nx,p.2)
  | .rt v=>.ok (.rt v,p.2)
noncomputable def Zx (fi:kP) (g:D->Sl->Out Sl) (fb:qP):qP:=λρ=>(fi ρ).bind λp=>yw g fb p.1 p.2
theorem gx {o:List Stmt} {fi:kP} {g:D->Sl->Out Sl} {fb:qP} (hp:PassesOwn (model X.prog X.w) X.A X.env X.xe) (V:X.calm=d8) (hi:PI X tg iter (tIt C own fi)) (hg:PG X tg (tGd C own g))
  (W:PSs X o (tSt { C with ol:=own } own own fb)) (T:∀ x,fT iter X.env x=pure x:=by intro _; rfl):PS X (.For tg iter o [] pos) (tSt C own own (Zx fi g fb)):=by
 refine Jj (ZO hp V hi hg W T) λD σ H ⟨F,ρ,S,h⟩=>⟨F,ρ,S,?_⟩
 unfold Zx at h;cases L:fi ρ with
 | exc c=>rw [L] at h; exact h
 | bad=>rw [L] at h; exact h.elim
 | ok p=>
  rw [L] at h;obtain ⟨ds,ρ1⟩:=p;intro J F1 H1 G R it;have h:PoS C own own σ F H (yw g fb ds ρ1) D:=h;refine ⟨λi m σ' H'=>m=ds.length - i/\i<=ds.length/\∃ F' ρ',Nx C own own σ F H ρ' σ' F' H'/\Same F1 F'/\PoS C own own σ' F' H' (yw g fb (ds.drop i) ρ') D,⟨ds.length,by simp,cw _,F1,ρ1,.ofE G R,Same.refl _,h.shift (.ofE G R)⟩,?_⟩;rintro i m σ' H' ⟨rfl,U,F',ρ',nx,gr,po⟩;by_cases t:i < ds.length
  ·have hd:ds.drop i=ds[i]::ds.drop (i+1):=List.drop_eq_getElem_cons t;rw [hd] at po;have po:PoS C own own σ' F' H' ((g ds[i] ρ').plain.bind λρ1=>(fb ρ1).bind λp=>match p.1 with | .nx=>yw g fb (ds.drop (i+1)) p.2 | .ct=>yw g fb (ds.drop (i+1)) p.2 | .bk=>.ok (.nx,p.2) | .rt v=>.ok (.rt v,p.2)) D:=po;refine .inr ⟨it.go i H' t (gr.trans nx.rep.sub),λu H2=>ds.length - (i+1)=ds.length - (i+1)/\i+1<=ds.length/\∃ F' ρ',Nx C own own σ F H ρ' u F' H2/\Same F1 F'/\PoS C own own u F' H2 (yw g fb (ds.drop (i+1)) ρ') D,λu H2 q=>⟨ds.length - (i+1),by omega,q⟩,λx H2 y=>?_⟩;obtain ⟨B,c2,s2,P⟩:=it.yld i F' H' x H2 ds[i] (by simp [t]) gr nx.rep.sub y;cases I:g ds[i] ρ' with
   | exc c=>rw [I] at po; exact po.elim
   | bad=>rw [I] at po; exact po.elim
   | ok l=>
    rw [I] at po;refine ⟨B,ρ',ds[i],nx.rep.grow c2 s2,P,l,I,λk E N Q=>⟨B,l,E,?_⟩⟩;have O:Nx C own own σ' F' H' l k B H2:=⟨E,c2.ofNo,λb z=>.inl (N b z),Q⟩
    have a:=PoS.shift (show PoS C own own σ' F' H' ((fb l).bind λp=>match p.1 with | .nx=>yw g fb (ds.drop (i+1)) p.2 | .ct=>yw g fb (ds.drop (i+1)) p.2 | .bk=>.ok (.nx,p.2) | .rt v=>.ok (.rt v,p.2)) D from po) O;have up:∀ {j f M r},Nx { C with ol:=own } own own k B H2 j f M r->Nx C own own k B H2 j f M r:=λz=>⟨z.rep,z.chg,z.oa,z.io⟩
    cases K:fb l with
    | exc c=>rw [K] at a; exact a
    | bad=>rw [K] at a; exact a.elim
    | ok p=>
     rw [K] at a;obtain ⟨Y,j⟩:=p;cases Y with
     | nx=>exact λf M r n=>⟨rfl,t,M,j,(nx.then O).then (up n),(gr.trans c2.grow).trans n.chg.grow,PoS.shift (show PoS C own own k B H2 (yw g fb (ds.drop (i+1)) j) D from a) (up n)⟩
     | ct=>exact λf M r n=>⟨rfl,t,M,j,(nx.then O).then (up n),(gr.trans c2.grow).trans n.chg.grow,PoS.shift (show PoS C own own k B H2 (yw g fb (ds.drop (i+1)) j) D from a) (up n)⟩
     | bk=>exact λf M r n=>a f M r (up n)
     | rt d=>exact λv f M r s io c e mo=>a v f M r s io c e mo
  ·have e:i=ds.length:=by omega
   subst e;rw [List.drop_length] at po;exact .inl ⟨it.stop _ H' (ao _) (gr.trans nx.rep.sub),po σ' F' H' (.refl nx.rep)⟩
end
noncomputable def xP (cells:List (Str×Addr)):List (Str×fC)->List (Str×Addr)->List (Str×Addr)
 | [],acc=>acc
 | (n,k)::r,acc=>if (k == .free)=d8 then xP cells r ((n,(cells.lookup n).getD 0)::acc) else xP cells r acc
variable {env:Env}
theorem kX:∀ (names:List (Str×fC)) (acc:List (Str×Addr)),(∀ x∈names,x.2=.free->∃ c,env.cells.lookup x.1=d4 c) ->(forIn names acc λ(x:Str×fC) (cs:List (Str×Addr))=>if (x.2 == aV)=d8 then (do let a <-cellOf env x.1; pure (bx ((x.1,a)::cs))) else pure (bx cs):Sem (List (Str×Addr)))=pure (xP env.cells names acc)
 | [],acc,_=>rfl
 | (n,k)::r,acc,h=>by
  rw [List.forIn_cons];by_cases q:(k == aV)=d8
  ·obtain ⟨c,d⟩:=h (n,k) aI (by simpa using q);have e:cellOf env n=pure c:=by unfold cellOf; rw [d]
   simp only [q,if_true,e];have l:=kX r ((n,c)::acc) (λx hx=>h x (ac _ hx));simp only [xP,q,if_true,d,dq];exact l
  ·simp only [q,if_false,xP];exact kX r acc (λx hx=>h x (ac _ hx))
variable {scope:fN}
theorem Jm (h:∀ x∈scope.names,x.2=.free->∃ c,env.cells.lookup x.1=d4 c):closureFor scope env=pure (xP env.cells scope.names []):=by have:=kX scope.names [] h;unfold closureFor;simp only [bind_pure];exact this
variable {cells:List (Str×Addr)}
theorem vU:∀ {names:List (Str×fC)} {acc:List (Str×Addr)} {x:Str} {c:Addr},(∀ y∈names,y.2=.free->∃ c,cells.lookup y.1=d4 c)->(xP cells names acc).lookup x=d4 c->cells.lookup x=d4 c\/acc.lookup x=d4 c
 | [],acc,x,c,_,h=>.inr h
 | (n,k)::r,acc,x,c,hf,h=>by
  unfold xP at h;by_cases q:(k == aV)=d8
  ·rw [Aa q] at h;obtain ⟨U,d⟩:=hf (n,k) aI (by simpa using q);rcases vU (λy D=>hf y (ac _ D)) h with z | z;·exact .inl z
   ·rw [bP] at z;have d:cells.lookup n=d4 U:=d;by_cases e:(x == n)=d8
    ·rw [e] at z;simp only [d,dq] at z;have:x=n:=by simpa using e
     subst this;rw [d]; exact .inl z
    ·have e:(x == n)=false:=by simpa using e
     rw [e] at z;exact .inr z
  ·rw [Ab q] at h;exact vU (λy D=>hf y (ac _ D)) h
theorem xg:∀ {names:List (Str×fC)} {acc:List (Str×Addr)} {x:Str},(∃ c,acc.lookup x=d4 c)->∃ c,(xP cells names acc).lookup x=d4 c
 | [],_,_,h=>h
 | (n,k)::r,acc,x,h=>by
  unfold xP;by_cases q:(k == aV)=d8
  ·rw [Aa q];refine xg ?_;obtain ⟨c,d⟩:=h;rw [bP];by_cases e:(x == n)=d8;·rw [e]; exact ⟨_,rfl⟩
   ·have e:(x == n)=false:=by simpa using e
    rw [e]; exact ⟨c,d⟩
  ·rw [Ab q]; exact xg h
theorem uI:∀ {names:List (Str×fC)} {acc:List (Str×Addr)} {x:Str},(x,aV)∈names->∃ c,(xP cells names acc).lookup x=d4 c
 | (n,k)::r,acc,x,h=>by
  unfold xP;rcases aa.mp h with e | h
  ·cases e;rw [Aa (by rfl)];refine xg ?_;rw [bP,beq_self_eq_true];exact ⟨_,rfl⟩
  ·by_cases q:(k == aV)=d8;·rw [Aa q]; exact uI h
   ·rw [Ab q]; exact uI h
noncomputable def ji (X:Cx) (scope:fN) (N:List Str) (fp:List Addr) (L:Addr) (s:d9) (H:Hp):Cx:=
 { X with N:=N,s₀:=s,H₀:=H,env:=compEnvC scope (xP X.env.cells scope.names []) L X.env,outer:=X.stack,stack:=X.stack,ex:=fp,fn:=λ_=>d7,pn:=[],xe:=λ_ _=>False }
structure ScOk (X:Cx) (scope:fN):Prop where
 kind:scope.kind=.function
 nocell:∀ y∈scope.names,y.2≠.cell
 names:∀ y∈scope.names,y.2=.local->scope.names.lookup y.1=d4 .local
 free:∀ y∈scope.names,y.2=.free->X.env.kindOf y.1=d4 .cell\/X.env.kindOf y.1=d4 .free
 frl:∀ y∈scope.names,y.2=.free->scope.names.lookup y.1=d4 .free
theorem vz {a:α}:∀ {l:List (Str×α)},l.lookup x=d4 a->(x,a)∈l
 | [],h=>by simp at h
 | (n,k)::r,h=>by
  rw [bP] at h;by_cases e:(x == n)=d8
  ·rw [e] at h;have h:d4 k=d4 a:=h;cases h;have:x=n:=by simpa using e
   subst this;exact aI
  ·have e:(x == n)=false:=by simpa using e
   rw [e] at h;exact ac _ (vz h)
theorem ug {k:fC} (h:(relabel scope env).names.lookup x=d4 k) (b:k=.cell\/k=.free) (a:∀ y∈scope.names,y.2≠.cell):(x,aV)∈scope.names:=by
 have m:=vz h;obtain ⟨⟨n,k'⟩,c,e⟩:=aF.mp m;dsimp only at e;by_cases q:(k' == aV&&env.scope.kind == .function&&env.kindOf n == d4 .cell)=d8
 ·rw [Aa q] at e;cases e;have:k'=.free:=by rw [aA,aA] at q;simpa using q.1.1
  subst this;exact c
 ·rw [Ab q] at e;cases e;rcases b with rfl | rfl;·exact absurd rfl (a _ c)
  ·exact c
theorem zj (h:Vis (relabel scope env) x):∃ k,(x,k)∈scope.names:=by
 have go:∀ {k:fC},(relabel scope env).names.lookup x=d4 k->∃ k,(x,k)∈scope.names:=λ{k} h=>by
  obtain ⟨⟨n,k'⟩,c,e⟩:=aF.mp (vz h);dsimp only at e;by_cases q:(k' == aV&&env.scope.kind == .function&&env.kindOf n == d4 .cell)=d8;·rw [Aa q] at e;cases e;exact ⟨_,c⟩
  ·rw [Ab q] at e;cases e;exact ⟨_,c⟩
 rcases h with h | h | h <;> exact go h
variable {pins:Pns} {σc:St} {s s':d9} {fp:List Addr} {h':Heap}
section
theorem zk (I:Inv X pins σ H s) (S:ScOk X scope):∀ y∈scope.names,y.2=.free->∃ c,X.env.cells.lookup y.1=d4 c:=λy D e=>I.ok.has y.1 (S.free y D e)
theorem Ub (I:Inv X pins σ H s) (S:ScOk X scope) (J:∀ b∈fp,gf X pins H b) (T:∀ b∈fp,b < s.heap.objs.size) (C:h'.Ns s.heap.objs.size (λ_=>d6))
  (w:∀ b o,s.heap.get? b=d4 o->h'.get? b=d4 o) (hl:σc.length=N.length)
  (B:∀ (j:Nat) (x:Str) (v:V),N[j]?=d4 x->σc[j]?=d4 (d4 v)->(∃ k,(x,k)∈scope.names)->∃ i:Nat,X.N[i]?=d4 x/\σ[i]?=d4 (d4 v)/\Vis X.env.scope x/\(x,aV)∈scope.names) {t:Nat} :
  Inv (ji X scope N fp s.heap.objs.size s H) [] σc H { s with heap:=h',toks:=t }:=by
 have G:=zk I S;have cl:∀ x c,(xP X.env.cells scope.names []).lookup x=d4 c->X.env.cells.lookup x=d4 c:=λx c e=>(vU G e).resolve_right (by simp);have A:∀ b∈fp,b∉frs X.stack:=λb g z=>by
  obtain ⟨f0,f1,f2,_⟩:=J b g;rcases aa.mp (I.stkSub b z) with e | e;·exact f1 e
  ·exact f2 e
 refine ⟨⟨I.ok.mod,?_,I.ok.glob,I.ok.blt,ao _,λx y c h1 h2=>I.ok.inj x y c (cl x c h1) (cl y c h2),λx hx=>?_,λx c h=>absurd h (by show ¬(d7=d8); exact bq),I.ok.hd,I.ok.frames,.inl rfl,λb g=>⟨aE (T b g),λx c e z=>?_⟩,I.bs,br I.ok.bsz I.sz,λb o e g=>?_,A,I.stack,I.stkFree⟩,rfl,I.bare,Un.kept w,⟨_,C,λj x v e1 l Q=>?_⟩,λx c e=>?_,I.hok.fresh (ao _),λx c e=>I.freeC x c (cl x c e),λp hp=>absurd (show p∈([]:Pns) from hp) (by simp),I.hok.kept w,hl⟩;·exact S.kind
 ·refine uI ?_;rcases hx with hx | hx;·exact ug hx (.inl rfl) S.nocell
  ·exact ug hx (.inr rfl) S.nocell
 ·exact (J b g).2.2.2.2.1 x c (cl x c e) z
 ·rcases (J b g).2.2.2.1 with z | z;·exact I.ok.noex b o e z
  ·have D:=am e;exact absurd (au D (br I.ok.bsz z)) (bG _)
 ·obtain ⟨i,g1,Y,W,L⟩:=B j x v e1 l (zj Q);obtain ⟨m,Z,E⟩:=I.loc;obtain ⟨u,r,look⟩:=E i x v g1 Y W;refine ⟨u,r,?_⟩;obtain ⟨M,f⟩:=uI (cells:=X.env.cells) (acc:=[]) L;have K:=cl x M f;have kd:(ji X scope N fp s.heap.objs.size s H).env.kindOf x=d4 .cell\/(ji X scope N fp s.heap.objs.size s H).env.kindOf x=d4 .free\/(ji X scope N fp s.heap.objs.size s H).env.kindOf x=d4 .local:=by
   rcases Q with z | z | z;·exact .inr (.inr z)
   ·exact .inl z
   ·exact .inr (.inl z)
  rcases look with ⟨k,_⟩ | ⟨k,c,P,z⟩
  ·rcases S.free _ L rfl with q | q;·have q:X.env.kindOf x=d4 .cell:=q;rw [k] at q; cases q
   ·have q:X.env.kindOf x=d4 .free:=q;rw [k] at q; cases q
  ·rw [K] at P;cases P;obtain ⟨oc,d,a⟩:=z;rcases kd with q | q | q;·exact .inr ⟨.inl q,M,f,⟨oc,w _ _ d,a⟩⟩
   ·exact .inr ⟨.inr q,M,f,⟨oc,w _ _ d,a⟩⟩
   ·refine absurd q ?_;intro q;have R:=vz (show (relabel scope X.env).names.lookup x=d4 .local from q);obtain ⟨⟨n,k'⟩,U,e⟩:=aF.mp R;dsimp only at e;by_cases O:(k' == aV&&X.env.scope.kind == .function&&X.env.kindOf n == d4 .cell)=d8;·rw [Aa O] at e; cases e
    ·rw [Ab O] at e;cases e;have e1:=S.names _ U rfl;have l:=S.frl _ L rfl;have e1:scope.names.lookup x=d4 .local:=e1;have l:scope.names.lookup x=d4 .free:=l;rw [e1] at l;cases l
 ·obtain ⟨v,oc,d,a⟩:=I.cell x c (cl x c e);exact ⟨v,oc,w _ _ d,a⟩
theorem Uc {H1:Hp} {s1:d9} {L:Addr} (I:Inv X pins σ H s) (h:∀ b∈fp,gf X pins H b) (J:Inv (ji X scope N fp s.heap.objs.size s H) [] σc H' s') (A:bB s.heap.objs.size s'.heap h'):Inv X pins σ H' { s' with heap:=h' }:=by
 have a:H' s.heap.objs.size=none:=J.free;have ne:∀ b o,s.heap.get? b=d4 o->b≠s.heap.objs.size:=λb o e=>aE (am e);have U:Un (frs X.stack) fp H H' s.heap s'.heap:=J.base;refine I.call' (s':={ s' with heap:=h' }) (ch:=fp) J.os ⟨λb o e n h1 h2=>(A.2 b (ne b o e)).trans (U.keep b o e n h1 h2),λb o e n h1 h2=>?_,U.free,λb o e h2=>?_,U.tups,U.frzs,U.tbls⟩ (λb u e=>?_) J.bare λb f=>?_;·obtain ⟨sl,q⟩:=U.slot b o e n h1 h2;exact ⟨sl,(A.2 b (ne b o e)).trans q⟩
 ·obtain ⟨o',q⟩:=U.there b o e h2;exact ⟨o',(A.2 b (ne b o e)).trans q⟩
 ·refine (J.hok b u e).stay (λc w d q=>(A.2 c ?_).trans q) (λ_ q=>q) λ_ _ q=>q;rintro rfl;rcases d with z | z;·rw [<-z,a] at e; cases e
  ·rw [a] at z; cases z
 ·obtain ⟨f0,f1,f2,t,f4,g⟩:=h b f;exact ⟨t,f1,f4,g⟩
end
theorem xh {prog:eH} {w:eI} {A:eZ} {R:Result->d9->Prop} {s:d9} {elt target iter:Expr} {ifs:List Expr} {scope:fN} {pos:Pos} {it acc:d5} {env:Env} (I:Nat->d9->Prop)
  (B:∀ n s,I n s->ez (model prog w) A (pyNext it) (λr d=>match r with
   | none=>R (.ok .next) d
   | some v=>ez (model prog w) A (fW target it v) (λ_ e=>ez (model prog w) A (assign target env v) (λ_ i=>
     ez (model prog w) A (forIn ifs d8 λc r=>if r=d8 then do let ok <-isTrue c env (eval c env); pure (bx ok) else pure (bx r)) (λok b=>
      if ok=d8 then ez (model prog w) A (eval elt env) (λx g=>
       ez (model prog w) A (call (.builtin "list.append") [acc,x]) (λ_ f=>∃ m,m < n/\I m f) (λ_ _=>False) g) (λ_ _=>False) b
      else ∃ m,m < n/\I m b) (λ_ _=>False) i) (λ_ _=>False) e) (λ_ _=>False) d) (λ_ _=>False) s)
  (n:Nat) (h:I n s):fE (model prog w) A (.compLoop (.ListComp elt [⟨target,iter,ifs,0⟩] scope pos) 0 it acc env) R s:=by
 have no:∀ {α:Type} {t:Sem α} {Q u:α->d9->Prop} {E:d5->d9->Prop} {s:d9},ez (model prog w) A t Q (λ_ _=>False) s->(∀ a s,Q a s->u a s)->ez (model prog w) A t u E s:=λh k=>fI h k λ_ _ z=>z.elim;refine codeAny_loop rfl I (λn s y=>?_) n h;show ez _ A ((compTurn (.ListComp elt [⟨target,iter,ifs,0⟩] scope pos) 0 it acc env).onRaise (λx=>do noteFrame x env; theTreesLotGoes x)) _ _ s;refine wpAny_noted ?_;rw [compTurn_list];refine ej (wpAny_standAt (ej (no (B n s y) λr d h₁=>?_)));cases r with
 | none=>exact et h₁
 | some v=>
  refine ej (no h₁ λ_ e l=>ej (no l λ_ i q=>ej (no q λok b j=>?_)));cases ok with
  | false=>exact et ⟨rfl,j⟩
  | true=>exact ej (ej (no j λx g p=>ej (no p λ_ f o=>et (et ⟨rfl,o⟩))))
structure PTs (Y:Cx) (ifs:List Expr) (t:TT):Prop where
 run:∀ (pins:Pns) (s:d9) (σ:St) (H:Hp) (Q:Bool->Hp->Prop),Inv Y pins σ H s->t σ H Q ->ez (model Y.prog Y.w) Y.A (forIn ifs d8 λc r=>if r=d8 then do let ok <-isTrue c Y.env (eval c Y.env); pure (bx ok) else pure (bx r)) (TP Y pins σ Q) Y.xe s
instance {Y:Cx} {ifs:List Expr} {t:TT}:CoeFun (PTs Y ifs t) (λ_=>∀ (pins:Pns) (s:d9) (σ:St) (H:Hp) (Q:Bool->Hp->Prop),Inv Y pins σ H s->t σ H Q ->ez (model Y.prog Y.w) Y.A (forIn ifs d8 λc r=>if r=d8 then do let ok <-isTrue c Y.env (eval c Y.env); pure (bx ok) else pure (bx r)) (TP Y pins σ Q) Y.xe s):=⟨λh=>h.run⟩
variable {Y:Cx}
theorem Xm:PTs Y [] (λ_ H Q=>Q d8 H):=⟨λ_ _ _ H _ I h=>wpAny_tests_nil ⟨H,I,h⟩⟩
variable {ifs:List Expr} {te:TE} {E:d5->d9->Prop}
section
variable {it:Addr} {tn:Nat->Heap->Prop} {J:It} {elt:Expr} {g:TG} {tt:TT}
theorem Ud (I:Inv X pins σ H s) (P:X.calm=d8) (S:ScOk X scope) (T:Turn X.prog X.w X.K tg J fp it tn) (st0:tn 0 s.heap) (hf:∀ b∈fp,gf X pins H b)
  (hg:∀ fp L s' H',PG (ji X scope N fp L s' H') tg g) (ht:∀ fp L s' H',PTs (ji X scope N fp L s' H') ifs tt) (he:∀ fp L s' H',PE (ji X scope N fp L s' H') elt te) (hl:σc.length=N.length)
  (hσ:∀ (j:Nat) (x:Str) (v:V),N[j]?=d4 x->σc[j]?=d4 (d4 v)->(∃ k,(x,k)∈scope.names)->∃ i:Nat,X.N[i]?=d4 x/\σ[i]?=d4 (d4 v)/\Vis X.env.scope x/\(x,aV)∈scope.names)
  (W:Addr->Nat->Nat->St->Hp->Prop) (Fin:Addr->Hp->Prop) (w0:∀ p,H p=d6->∃ m,W p 0 m σc (upd H p (.lst [])))
  (F:∀ p i m σ1 H1,W p i m σ1 H1->(J.stop i H1/\Fin p H1)\/(J.go i H1/\∀ x H2,J.yld i H1 x H2->g x σ1 H2 λB H3=>tt B H3 λb H4=>if b=d8 then te B H4 λy H5=>∃ xs,H5 p=d4 (.lst xs)/\xs.length < sizeLine/\∃ f,f < m/\W p (i+1) f B (upd H5 p (.lst (xs++[y]))) else ∃ f,f < m/\W p (i+1) f B H4))
  (RR:d5->Addr->Result->d9->Prop)
  (hRR:∀ p L H' s',Fin p H'->(∃ m,s'.heap.Ns L m)->gf X pins H' L->(∀ h',bB L s'.heap h'->Inv X pins σ H' { s' with heap:=h' })->RR (.ref p) L (.ok .next) s') :
  ez (model X.prog X.w) X.A (newList []) (λacc s₃=>ez (model X.prog X.w) X.A (newFunctionEnv scope X.env.globals (xP X.env.cells scope.names []) [] X.env.qual d6 .none (d4 X.env)) (λG s₄=>
   fE (model X.prog X.w) X.A (.compStart (.ListComp elt [⟨tg,iter,ifs,0⟩] scope pos) 0 (.ref it) acc { G with scope:=relabel scope X.env }) (RR acc G.locals) s₄) E s₃) E s:=by
 have hfo:∀ b∈fp,b < s.heap.objs.size:=λb h=>let ⟨o,e,_⟩:=T.obj 0 _ st0 b h; am e;have C:=I.fresh;have I3:Inv X pins σ (upd H s.heap.objs.size (.lst [])) { s with heap:=s.heap.push { cls:=.type "list",data:=.seq ([]:List d5).toArray } }:=I.lnew (t':=s.toks) (ys:=[]) (its:=[]) .nil (cw _);have O:∀ b∈fp,gf X pins (upd H s.heap.objs.size (.lst [])) b:=λb h=>⟨by rw [qu (aE (hfo b h))]; exact (hf b h).1,(hf b h).2⟩
 have st3:tn 0 (s.heap.push { cls:=.type "list",data:=.seq ([]:List d5).toArray }):=T.keep 0 _ _ st0 λb h o e=>ae _ e;refine fH (wpAny_newFunctionEnv S.nocell (λy hy=>by simp at hy) (λh₁ c a=>?_) S.kind);dsimp only at c a ⊢;generalize hs3:({ s with heap:=s.heap.push { cls:=.type "list",data:=.seq ([]:List d5).toArray } }:d9)=s3 at I3;have e3:s3.heap=s.heap.push { cls:=.type "list",data:=.seq ([]:List d5).toArray }:=by rw [<-hs3]
 rw [<-e3] at c a st3 ⊢;have keep:∀ b o,s3.heap.get? b=d4 o->h₁.get? b=d4 o:=λb o e=>(a.2 b (aE (am e))).trans (ae _ e);have ho3:∀ b∈fp,b < s3.heap.objs.size:=λb h=>by rw [e3,dE]; exact Nat.lt_succ_of_lt (hfo b h)
 have J1:Inv (ji X scope N fp s3.heap.objs.size s3 (upd H s.heap.objs.size (.lst []))) [] σc (upd H s.heap.objs.size (.lst [])) { s3 with heap:=h₁,toks:=s.toks+0 }:=
  Ub I3 S O ho3 (by simpa using c) keep hl hσ
 have st4:tn 0 h₁:=T.keep 0 _ _ st3 λb h o e=>keep b o e;have loop:∀ s4:d9,s4={ s3 with heap:=h₁,toks:=s.toks+0 }->fE (model X.prog X.w) X.A (.compLoop (.ListComp elt [⟨tg,iter,ifs,0⟩] scope pos) 0 (.ref it) (.ref s.heap.objs.size) (compEnvC scope (xP X.env.cells scope.names []) s3.heap.objs.size X.env)) (RR (.ref s.heap.objs.size) s3.heap.objs.size) s4:=by
  rintro s4 rfl;generalize D:ji X scope N fp s3.heap.objs.size s3 (upd H s.heap.objs.size (.lst []))=Y at J1;have eP:Y.prog=X.prog:=by rw [<-D]; rfl
  have ew:Y.w=X.w:=by rw [<-D]; rfl
  have eA:Y.A=X.A:=by rw [<-D]; rfl
  have ee:Y.env=compEnvC scope (xP X.env.cells scope.names []) s3.heap.objs.size X.env:=by rw [<-D]; rfl
  have eK:Y.K=X.K:=by rw [<-D]; rfl
  have ec:Y.calm=true:=by rw [<-D]; exact P
  have ex:Y.xe=λ_ _=>False:=by rw [<-D]; rfl
  have hgY:PG Y tg g:=by rw [<-D]; exact hg fp _ _ _
  have htY:PTs Y ifs tt:=by rw [<-D]; exact ht fp _ _ _
  have heY:PE Y elt te:=by rw [<-D]; exact he fp _ _ _
  have t:∀ {H1:Hp},(∀ b∈fp,H1 b=d6)->∀ b∈fp,gf Y [] H1 b:=λhn b h=>by have q:=J1.ok.exf b (by rw [<-D]; exact h);refine ⟨hn b h,q.1,J1.ok.exfs b (by rw [<-D]; exact h),.inl (by rw [<-D]; exact h),q.2,λp hp=>?_⟩;rw [<-D] at hp;exact absurd (show p∈([]:Pns) from hp) (by simp)
  obtain ⟨m0,hm0⟩:=w0 s.heap.objs.size C;refine xh (λn s'=>∃ i σ1 H1,Inv Y [] σ1 H1 s'/\tn i s'.heap/\(∀ b∈fp,H1 b=d6)/\W s.heap.objs.size i n σ1 H1) ?_ m0 ⟨0,σc,_,J1,st4,λb h=>(O b h).1,hm0⟩;rintro n s5 ⟨i,σ1,H1,J5,st5,fr5,w5⟩;rw [<-eP,<-ew,<-eA,<-ee];have TY:Turn Y.prog Y.w Y.K tg J fp it tn:=by rw [eP,ew,eK]; exact T
  rcases F _ i n σ1 H1 w5 with ⟨stop,fin⟩ | ⟨go,step⟩
  ·refine thn (TY.done Y rfl rfl rfl ec i [] s5 σ1 H1 _ J5 (t fr5) st5 stop) λr s6 ⟨hr,J6⟩=>?_;subst hr;have Q:Inv (ji X scope N fp s3.heap.objs.size s3 (upd H s.heap.objs.size (.lst []))) [] σ1 H1 s6:=by rw [D]; exact J6
   exact hRR _ _ H1 s6 fin (let ⟨m,hn,_⟩:=Q.loc; ⟨m,hn⟩) (I3.fpOk (ao _) Q.free) λh' sb=>Uc (s1:=s6) (H1:=H1) (L:=0) I3 O Q sb
  ·refine thn (TY.item Y rfl rfl rfl ec i [] s5 σ1 H1 _ J5 (t fr5) st5 go) λr s6 ⟨u,hr,h6⟩=>?_;subst hr;refine thn h6 λ_ s7 ⟨x,H7,J7,r7,y7,M,fr7⟩=>?_;have J7':=J7.pinned (t fr7) (TY.obj _ _ M);have back:∀ {l:St} {Z:Hp} {R:d9},Inv Y ([]++xT fp s7.heap) l Z R->(∃ f,f < n/\W s.heap.objs.size (i+1) f l Z)->∃ m,m < n/\∃ i σ1 H1,Inv Y [] σ1 H1 R/\tn i R.heap/\(∀ b∈fp,H1 b=d6)/\W s.heap.objs.size i m σ1 H1:=λ{l Z R} U ⟨f,hm,w9⟩=>by refine ⟨f,hm,i+1,l,Z,U.unpinned,TY.keep _ _ _ M λb h o e=>(U.pin (b,o) (aC _ (aC _ (vt h e)))).1,λb h=>?_,w9⟩;obtain ⟨o,e,d⟩:=TY.obj _ _ M b h;exact (U.pin (b,o) (aC _ (aC _ (vt h e)))).2.1
   rw [<-ex];refine thn (hgY _ s7 σ1 H7 x u _ J7' r7 (step x H7 y7)) λ_ s8 ⟨z,H8,J8,q8⟩=>?_;refine thn (htY _ s8 z H8 _ J8 q8) λok R ⟨Z,U,q9⟩=>?_;cases ok with
   | false=>exact back U q9
   | true=>refine thn (heY _ R z Z _ U q9) λv s10 ⟨y,H10,J10,r10,xs,hx,hlen,q10⟩=>?_;exact thn (xX _ s10 z H10 (.ref s.heap.objs.size) [y] (.ref s.heap.objs.size) [v] (λ_ H11=>∃ f,f < n/\W s.heap.objs.size (i+1) f z H11) J10 rfl (.cons r10 .nil) ⟨_,xs,y,rfl,rfl,hx,hlen,q10⟩) λ_ s11 ⟨_,H11,J11,_,q11⟩=>back J11 q11
 have e4:({ heap:=h₁,gens:=s.gens,drawn:=s.drawn,toks:=s.toks+([]:List (Str×d5)).length,os:=s.os }:d9)={ s3 with heap:=h₁,toks:=s.toks+0 }:=by rw [<-hs3]; rfl
 exact codeAny_compStart_list (loop _ e4) (T.self _ 0 _ _ _ st4 (loop _ e4))
end
noncomputable def ki (nt:Nat) (cap:List Nat) (ρ:List (Option α)):List (Option α):=aj nt d6++cap.map λk=>(ρ[k]?).getD d6
noncomputable def vV (own:List Nat):Nat->List Nat->List Nat
 | _,[]=>[]
 | n,k::cap=>if k∈own then n::vV own (n+1) cap else vV own (n+1) cap
noncomputable def ioC (nt len:Nat):List Nat:=(aZ len).map (nt + ·)
noncomputable def jH (own:List Nat) (ρc:Sl):Nat->List Nat->Sl->Sl
 | _,[],ρ=>ρ
 | n,k::cap,ρ=>if k∈own then jH own ρc (n+1) cap (ρ.set k ((ρc[n]?).getD d6)) else jH own ρc (n+1) cap ρ
variable {nt:Nat} {cap:List Nat}
theorem jQ {ρ:List (Option α)} {d:α}:(ki nt cap ρ)[i]?=d4 (d4 d)↔∃ j k,i=nt+j/\cap[j]?=d4 k/\ρ[k]?=d4 (d4 d):=by
 unfold ki;constructor
 ·intro h;by_cases hi:i < nt;·rw [bD (by simpa using hi),bj] at h;split at h <;> cases h
  ·rw [bn (by simpa using hi),bT,aM] at h;cases q:cap[i - nt]? with
   | none=>rw [q] at h; cases h
   | some k=>
    rw [q] at h;have h:(ρ[k]?).getD d6=d4 d:=ax.inj h;refine ⟨i - nt,k,by lia,q,?_⟩;cases a:ρ[k]? with
    | none=>rw [a] at h; cases h
    | some o=>rw [a] at h; exact congrArg d4 h
 ·rintro ⟨j,k,rfl,h1,h2⟩;rw [bn (by simp),bT,aM,show nt+j - nt=j by lia,h1];simp [h2]
theorem jo {own:List Nat}:∀ {n:Nat} {cap:List Nat} {i:Nat},i∈vV own n cap↔∃ j k,i=n+j/\cap[j]?=d4 k/\k∈own
 | n,[],i=>by simp [vV]
 | n,k::cap,i=>by
  have l:=@jo own (n+1) cap i;unfold vV;by_cases h:k∈own
  ·rw [Aa h,aa,l];constructor
   ·rintro (rfl | ⟨j,k',e,h1,h2⟩);·exact ⟨0,k,rfl,rfl,h⟩
    ·exact ⟨j+1,k',by lia,by simpa using h1,h2⟩
   ·rintro ⟨j,k',e,h1,h2⟩;cases j with
    | zero=>exact .inl (by lia)
    | succ j=>exact .inr ⟨j,k',by lia,by simpa using h1,h2⟩
  ·rw [Ab h,l];constructor;·rintro ⟨j,k',e,h1,h2⟩;exact ⟨j+1,k',by lia,by simpa using h1,h2⟩
   ·rintro ⟨j,k',e,h1,h2⟩;cases j with
    | zero=>simp at h1; subst h1; exact absurd h2 h
    | succ j=>exact ⟨j,k',by lia,by simpa using h1,h2⟩
theorem xi {len:Nat}:i∈ioC nt len↔∃ j,j < len/\i=nt+j:=by
 unfold ioC;rw [aF];constructor;·rintro ⟨j,h1,h2⟩; exact ⟨j,bY.mp h1,h2.symm⟩
 ·rintro ⟨j,h1,h2⟩; exact ⟨j,bY.mpr h1,h2.symm⟩
variable {ρc:Sl}
theorem wS:∀ {n:Nat} {cap:List Nat} {ρ:Sl},(jH own ρc n cap ρ).length=ρ.length
 | _,[],_=>rfl
 | n,k::cap,ρ=>by
  unfold jH;by_cases h:k∈own;·rw [Aa h,wS,cV]
  ·rw [Ab h,wS]
theorem jL:∀ {n:Nat} {cap:List Nat} {ρ:Sl} {i:Nat},¬(i∈cap/\i∈own)->(jH own ρc n cap ρ)[i]?=ρ[i]?
 | _,[],_,_,_=>rfl
 | n,k::cap,ρ,i,h=>by
  unfold jH;have h':¬(i∈cap/\i∈own):=λz=>h ⟨ac _ z.1,z.2⟩;by_cases a:k∈own;·rw [Aa a,jL h',af (λe=>h ⟨aa.mpr (.inl e.symm),by rw [<-e]; exact a⟩)]
  ·rw [Ab a,jL h']
theorem wt:∀ {n:Nat} {cap:List Nat} {ρ:Sl} {j k:Nat} {d:D},cap.Nodup->cap[j]?=d4 k->k∈own->k < ρ.length->ρc[n+j]?=d4 (d4 d)->(jH own ρc n cap ρ)[k]?=d4 (d4 d)
 | _,[],_,_,_,_,_,h,_,_,_=>by simp at h
 | n,k0::cap,ρ,0,k,d,nd,h,hk,hl,e=>by simp at h; subst h;obtain ⟨n1,n2⟩:=aH.mp nd;unfold jH;rw [Aa hk,jL (λz=>n1 z.1),ap hl];have e:ρc[n]?=d4 (d4 d):=e;rw [e]; rfl
 | n,k0::cap,ρ,j+1,k,d,nd,h,hk,hl,e=>by
  obtain ⟨n1,n2⟩:=aH.mp nd;have h:cap[j]?=d4 k:=by simpa using h
  have e:ρc[n+1+j]?=d4 (d4 d):=by rw [show n+1+j=n+(j+1) by lia]; exact e
  unfold jH;by_cases a:k0∈own;·rw [Aa a]; exact wt n2 h hk (by rw [cV]; exact hl) e
  ·rw [Ab a]; exact wt n2 h hk hl e
section
theorem gy {ρ:List (Option α)}:(ki nt cap ρ).length=nt+cap.length:=by simp [ki]
theorem KR {l:List Nat} (h:l.Nodup) {j k:Nat} (a:l[i]?=d4 k) (b:l[j]?=d4 k):i=j:=by obtain ⟨h1,e1⟩:=ak.mp a;obtain ⟨h2,e⟩:=ak.mp b;exact (dn h).mp (e1.trans e.symm)
theorem Xn (r:Rep K own F H σ ρ) (nd:cap.Nodup):Rep K (vV own nt cap) F H (ki nt cap σ) (ki nt cap ρ) where
 sub:=r.sub
 len:=by rw [gy,gy]
 val:=λi d hi e=>by obtain ⟨j,k,rfl,h1,h2⟩:=jQ.mp e;obtain ⟨v,g1,Y⟩:=r.val k d (λz=>hi (jo.mpr ⟨j,k,rfl,h1,z⟩)) h2;exact ⟨v,jQ.mpr ⟨j,k,rfl,h1,g1⟩,Y⟩
 ow:=λi d hi e=>by
  obtain ⟨j,k,rfl,h1,h2⟩:=jQ.mp e;obtain ⟨f,k',m,c,h⟩:=jo.mp hi;have:j=f:=by lia
  subst this;rw [h1] at c; cases c;obtain ⟨a,g1,Y⟩:=r.ow k d h h2;exact ⟨a,jQ.mpr ⟨j,k,rfl,h1,g1⟩,Y⟩
 opn:=λi hi=>by obtain ⟨j,k,rfl,h1,h2⟩:=jo.mp hi;obtain ⟨d,e⟩:=r.opn k h2;exact ⟨d,jQ.mpr ⟨j,k,rfl,h1,e⟩⟩
 dis:=λi u a hi g e m=>by
  obtain ⟨j,k,rfl,h1,h2⟩:=jo.mp hi;obtain ⟨f,k',rfl,c,h⟩:=jo.mp g;obtain ⟨x,y,t,l,o⟩:=jQ.mp e;obtain ⟨n,s,p,q,b⟩:=jQ.mp m;have:x=j:=by lia
  subst this;have:n=f:=by lia
  subst this;rw [h1] at l; cases l;rw [c] at q; cases q;have e:=r.dis k k' a h2 h o b;subst e;rw [KR nd h1 c]
theorem KS (o:∀ i∈ioC nt cap.length,σ1[i]?=(ki nt cap σ)[i]?) (h:OA (vV own nt cap) σ1 b):OA own σ b:=by
 obtain ⟨i,hi,e⟩:=h;obtain ⟨j,k,rfl,h1,h2⟩:=jo.mp hi;rw [o _ (xi.mpr ⟨j,(ak.mp h1).1,rfl⟩)] at e;obtain ⟨x,y,a,d,q⟩:=jQ.mp e;have:x=j:=by lia
 subst this;rw [h1] at d; cases d;exact ⟨k,h2,q⟩
theorem KU (p:Rep K own F H σ ρ) (nd:cap.Nodup) (r:Rep K (vV own nt cap) F' H' σ1 ρ1) (g:∀ i∈ioC nt cap.length,σ1[i]?=(ki nt cap σ)[i]?) (c:Chg (OA (vV own nt cap) σ1) F H F' H'):Rep K own F' H' σ (jH own ρ1 nt cap ρ) where
 sub:=r.sub
 len:=by rw [wS]; exact p.len
 val:=λi d hi e=>by rw [jL (λz=>hi z.2)] at e;obtain ⟨v,h1,h2⟩:=p.val i d hi e;exact ⟨v,h1,h2.mono c.grow⟩
 ow:=λi d hi e=>by
  by_cases q:i∈cap
  ·obtain ⟨j,G⟩:=List.getElem?_of_mem q;have m:nt+j∈vV own nt cap:=jo.mpr ⟨j,i,rfl,G,hi⟩;obtain ⟨d',h⟩:=r.opn _ m;obtain ⟨A,b⟩:=p.opn i hi;rw [wt nd G hi (ak.mp b).1 h] at e;cases e;obtain ⟨a,h1,h2⟩:=r.ow _ _ m h;rw [g _ (xi.mpr ⟨j,(ak.mp G).1,rfl⟩)] at h1;obtain ⟨x,y,w,f,l⟩:=jQ.mp h1;have:x=j:=by lia
   subst this;rw [G] at f; cases f;exact ⟨a,l,h2⟩
  ·rw [jL (λz=>q z.1)] at e;obtain ⟨a,h1,h2,s⟩:=p.ow i d hi e;have na:¬OA (vV own nt cap) σ1 a:=λz=>by
    obtain ⟨B,n,t⟩:=z;obtain ⟨j,k,rfl,g1,Y⟩:=jo.mp n;rw [g _ (xi.mpr ⟨j,(ak.mp g1).1,rfl⟩)] at t;obtain ⟨x,y,w,f,l⟩:=jQ.mp t;have:x=j:=by lia
    subst this;rw [g1] at f; cases f;have e:=p.dis i k a hi Y h1 l;subst e;exact q (bZ g1)
   refine ⟨a,h1,?_,s.grow c.grow λo z=>c.keep a o z na⟩;cases O:F' a with
   | none=>rfl
   | some u=>
    rcases c.new a (by rw [O]; simp) with z | z | z;·exact absurd h2 z
    ·exact absurd z s.there
    ·exact absurd z na
 opn:=λi hi=>by
  by_cases q:i∈cap;·obtain ⟨j,G⟩:=List.getElem?_of_mem q;have m:nt+j∈vV own nt cap:=jo.mpr ⟨j,i,rfl,G,hi⟩;obtain ⟨d',h⟩:=r.opn _ m;obtain ⟨A,b⟩:=p.opn i hi;exact ⟨d',wt nd G hi (ak.mp b).1 h⟩
  ·rw [jL (λz=>q z.1)];exact p.opn i hi
 dis:=p.dis
end
noncomputable def KW (g:D->Sl->Out Sl) (ft:uE) (fe:qM) (d:D) (ρ:Sl):Out (Option D×Sl):=
 (g d ρ).plain.bind λρ1=>(ft ρ1).plain.bind λq=>if q.1=d8 then (fe q.2).plain.bind λr=>.ok (d4 r.1,r.2) else .ok (d6,q.2)
noncomputable def kj (g:D->Sl->Out Sl) (ft:uE) (fe:qM):List D->kP
 | [],ρ=>.ok ([],ρ)
 | d::ds,ρ=>(KW g ft fe d ρ).bind λp=>(kj g ft fe ds p.2).bind λq=>.ok (p.1.toList++q.1,q.2)
noncomputable def jX (own:List Nat) (nt:Nat) (cap:List Nat) (fi:kP) (g:D->Sl->Out Sl) (ft:uE) (fe:qM):qM:=λρ=>(fi ρ).bind λp=>
 if p.1.length<=sizeLine then (kj g ft fe p.1 (ki nt cap p.2)).bind λq=>.ok (.lst q.1,jH own q.2 nt cap p.2) else .bad
noncomputable def ctC (C:Ct) (nt len:Nat):Ct:=⟨C.K,C.cv,λ_ _ _=>False,ioC nt len,.sh,[],[],λ_ h=>absurd h (by simp)⟩
noncomputable def ftT:uE:=λρ=>.ok (d8,ρ)
theorem Ue:PTs Y [] (tT C own ftT):=⟨λpins s σ H Q I ⟨F,ρ,a,h⟩=>Xm pins s σ H Q I (h F H a .refl)⟩
structure CW (C:Ct) (own:List Nat) (nt:Nat) (cap:List Nat) (σ:St) (F H F0:Hp) (g:D->Sl->Out Sl) (ft:uE) (fe:qM) (ds ys:List D) (ρe:Sl) (p:Addr) (i:Nat) (σ1:St) (H1:Hp) (F1:Hp) (ρi:Sl) (accD:List D) (xs:List V) (rest:List D):Prop where
 rep:Rep C.K (vV own nt cap) F1 H1 σ1 ρi
 io:∀ i∈ioC nt cap.length,σ1[i]?=(ki nt cap σ)[i]?
 chg:Chg (OA (vV own nt cap) σ1) F H F1 H1
 gr:Same F0 F1
 at_:H1 p=d4 (.lst xs)
 nF:F1 p=d6
 is:IsL C.K F1 xs accD
 le:accD.length<=i
 run:kj g ft fe (ds.drop i) ρi=.ok (rest,ρe)
 all:accD++rest=ys
variable {ρe:Sl}
theorem Jn {g:D->Sl->Out Sl} {ft:uE} {fe:qM} {rest:List D} (h:kj g ft fe (d::ds) ρ=.ok (rest,ρe)):∃ ρ1,g d ρ=.ok ρ1/\∃ b j,ft ρ1=.ok (b,j)/\((b=d8/\∃ y l r,fe j=.ok (y,l)/\kj g ft fe ds l=.ok (r,ρe)/\rest=y::r)\/(b=d7/\kj g ft fe ds j=.ok (rest,ρe))):=by
 unfold kj KW at h;cases i:g d ρ with
 | exc c=>rw [i] at h; cases h
 | bad=>rw [i] at h; cases h
 | ok ρ1=>
  rw [i] at h;refine ⟨ρ1,rfl,?_⟩;simp only [Out.plain,Out.og] at h;cases f:ft ρ1 with
  | exc c=>rw [f] at h; cases h
  | bad=>rw [f] at h; cases h
  | ok p=>
   obtain ⟨b,j⟩:=p;rw [f] at h;refine ⟨b,j,rfl,?_⟩;simp only [Out.plain,Out.og] at h;cases b with
   | true=>
    refine .inl ⟨rfl,?_⟩;simp only [if_true] at h;cases e:fe j with
    | exc c=>rw [e] at h; cases h
    | bad=>rw [e] at h; cases h
    | ok p=>
     obtain ⟨y,l⟩:=p;rw [e] at h;simp only [Out.plain,Out.og] at h;cases q:kj g ft fe ds l with
     | exc c=>rw [q] at h; cases h
     | bad=>rw [q] at h; cases h
     | ok p=>obtain ⟨r,a⟩:=p;rw [q] at h;simp only [Out.og] at h;cases h;exact ⟨y,l,r,rfl,q,rfl⟩
   | false=>
    refine .inr ⟨rfl,?_⟩;simp only [Bool.false_eq_true,if_false,Out.og] at h;cases q:kj g ft fe ds j with
    | exc c=>rw [q] at h; cases h
    | bad=>rw [q] at h; cases h
    | ok p=>obtain ⟨r,a⟩:=p;rw [q] at h;simp only [Out.og] at h;cases h;rfl
section
variable {elt:Expr} {fi:kP} {g:D->Sl->Out Sl} {ft:uE} {fe:qM} {me:Mo}
structure CapOk (X:Cx) (scope:fN) (N:List Str) (nt:Nat) (cap:List Nat):Prop where
 nd:cap.Nodup
 len:N.length=nt+cap.length
 at_:∀ (j k:Nat),cap[j]?=d4 k->∃ x,N[nt+j]?=d4 x/\X.N[k]?=d4 x/\((Vis X.env.scope x/\(x,aV)∈scope.names)\/∀ k',(x,k')∉scope.names)
theorem KY {F:Hp} {ρ1:Sl} {it:Addr} {fp:List Addr} {tn:Nat->Heap->Prop} {J:It} {E:d5->d9->Prop} {ds ys:List D} {ρe:Sl} (I:Inv X pins σ H s) (W:X.calm=d8) (S:ScOk X scope) (CO:CapOk X scope N nt cap)
  (T:Turn X.prog X.w X.K tg J fp it tn) (st0:tn 0 s.heap) (hf:∀ b∈fp,gf X pins H b) (rp:Rep C.K own F H σ ρ1) (O:ItIs C.K F J ds) (hz:ds.length<=sizeLine)
  (hg:∀ fp L s' H',PG (ji X scope N fp L s' H') tg (tGd (ctC C nt cap.length) (vV own nt cap) g)) (ht:∀ fp L s' H',PTs (ji X scope N fp L s' H') ifs (tT (ctC C nt cap.length) (vV own nt cap) ft))
  (he:∀ fp L s' H',PE (ji X scope N fp L s' H') elt (tE (ctC C nt cap.length) (vV own nt cap) me fe)) (hme:me≠.any)
  (hrun:kj g ft fe ds (ki nt cap ρ1)=.ok (ys,ρe)) (RR:d5->Addr->Result->d9->Prop)
  (hRR:∀ p L s' F' H',H p=d6->Rep C.K own F' H' σ (jH own ρe nt cap ρ1)->Chg (OA own σ) F H F' H'->F' p=d6->OwnIs C.K F' H' p (.lst ys)->(∃ m,s'.heap.Ns L m)->gf X pins H' L->(∀ h',bB L s'.heap h'->Inv X pins σ H' { s' with heap:=h' })->RR (.ref p) L (.ok .next) s') :
  ez (model X.prog X.w) X.A (newList []) (λacc s₃=>ez (model X.prog X.w) X.A (newFunctionEnv scope X.env.globals (xP X.env.cells scope.names []) [] X.env.qual d6 .none (d4 X.env)) (λG s₄=>
   fE (model X.prog X.w) X.A (.compStart (.ListComp elt [⟨tg,iter,ifs,0⟩] scope pos) 0 (.ref it) acc { G with scope:=relabel scope X.env }) (RR acc G.locals) s₄) E s₃) E s:=by
 have oaH:∀ {σ1:St} {b:Addr},(∀ i∈ioC nt cap.length,σ1[i]?=(ki nt cap σ)[i]?)->OA (vV own nt cap) σ1 b->H b≠none:=λU z=>(rp.OA_there (KS U z)).1;refine Ud (σc:=ki nt cap σ) I W S T st0 hf hg ht (λfp L s' H'=>uR (he fp L s' H') hme) (by rw [gy,CO.len]) (λj x v e1 e2 e3=>?_)
  (λp i m σ1 H1=>H p=d6/\m=ds.length - i/\i<=ds.length/\∃ F1 ρi accD xs rest,CW C own nt cap σ F H F g ft fe ds ys ρe p i σ1 H1 F1 ρi accD xs rest)
  (λp H1=>H p=d6/\∃ σ1 F1 xs,Rep C.K (vV own nt cap) F1 H1 σ1 ρe/\(∀ i∈ioC nt cap.length,σ1[i]?=(ki nt cap σ)[i]?)/\Chg (OA (vV own nt cap) σ1) F H F1 H1/\H1 p=d4 (.lst xs)/\F1 p=d6/\IsL C.K F1 xs ys) (λp hp=>?_) ?_ RR ?_
 ·obtain ⟨j',k,rfl,h1,h2⟩:=jQ.mp e2;obtain ⟨y,g1,g2,g3⟩:=CO.at_ j' k h1;rw [g1] at e1; cases e1;obtain ⟨k',hk'⟩:=e3;rcases g3 with ⟨g3,g4⟩ | g3;·exact ⟨k,g2,h2,g3,g4⟩
  ·exact absurd hk' (g3 k')
 ·obtain ⟨r1,c1,hF⟩:=Yo (C:=C) (u:=.lst []) (Xn (nt:=nt) rp CO.nd) hp;exact ⟨ds.length,hp,by simp,cw _,F,ki nt cap ρ1,[],[],ys,r1,λ_ _=>rfl,c1.ofNo,Same.refl _,ql,hF,.nil,ao _,by simpa using hrun,rfl⟩
 ·rintro p i m σ1 H1 ⟨hp,rfl,hle,F1,ρi,accD,xs,rest,w⟩;by_cases t:i < ds.length
  ·have hd:ds.drop i=ds[i]::ds.drop (i+1):=List.drop_eq_getElem_cons t;have run:=w.run;rw [hd] at run;obtain ⟨ρa,ea,b,Z,eb,R⟩:=Jn run;have sub1:Same F H1:=w.gr.trans w.rep.sub;refine .inr ⟨O.go i H1 t sub1,λx H2 y=>?_⟩;obtain ⟨F2,c2,s2,is2⟩:=O.yld i F1 H1 x H2 ds[i] (by simp [t]) w.gr w.rep.sub y;have rp2:=w.rep.grow c2 s2;have M:∀ {Y:St},(∀ i∈ioC nt cap.length,Y[i]?=(ki nt cap σ)[i]?)->¬OA (vV own nt cap) Y p:=λU z=>oaH U z hp;have P:∀ {A:Addr->Prop} {Fa Ha Fb Hb:Hp} {zs:List V},Chg A Fa Ha Fb Hb->¬A p->Ha p=d4 (.lst zs)->Fa p=d6->Hb p=d4 (.lst zs)/\Fb p=none:=λ{A Fa Ha Fb Hb zs} c na e1 e2=>by
    refine ⟨c.keep p _ e1 na,?_⟩;cases q:Fb p with
    | none=>rfl
    | some u=>
     rcases c.new p (by rw [q]; simp) with z | z | z;·exact absurd e2 z
     ·rw [e1] at z; cases z
     ·exact absurd z na
   obtain ⟨at2,nF2⟩:=P c2 (λz=>z) w.at_ w.nF;refine ⟨F2,ρi,ds[i],rp2,is2,ρa,ea,λl rp3 oa3 io3=>?_⟩;have f:∀ i∈ioC nt cap.length,l[i]?=(ki nt cap σ)[i]?:=λi hi=>(io3 i hi).trans (w.io i hi);refine ⟨F2,ρa,rp3,?_⟩;rw [eb];intro F4 H4 rp4 c4;obtain ⟨at4,nF4⟩:=P c4 (M f) at2 nF2;have B:Chg (OA (vV own nt cap) l) F H F4 H4:=by
    have q1:Chg (OA own σ) F H F1 H1:=w.chg.mono λb z=>KS w.io z;have mv:∀ {b},OA (vV own nt cap) σ1 b->OA (vV own nt cap) l b:=λ{b} z=>by obtain ⟨i',hi',e'⟩:=z;obtain ⟨j,k,rfl,g1,g2⟩:=jo.mp hi';have hm:nt+j∈ioC nt cap.length:=xi.mpr ⟨j,(ak.mp g1).1,rfl⟩;exact ⟨nt+j,hi',by rw [f _ hm,<-w.io _ hm]; exact e'⟩
    exact ((w.chg.mono λb z=>mv z).trans' c2.ofNo).trans' c4
   have gr4:Same F F4:=(w.gr.trans c2.grow).trans c4.grow;have Q:IsL C.K F4 xs accD:=(w.is.mono c2.grow).mono c4.grow;rcases R with ⟨rfl,y',ρc,r,ec,er,hr⟩ | ⟨rfl,er⟩
   ·rw [Aa rfl];refine ⟨F4,Z,rp4,?_⟩;rw [ec];intro v F5 H5 h c5 mo5;obtain ⟨at5,nF5⟩:=P c5 (M f) at4 nF4;have hlen:xs.length=accD.length:=Q.length;refine ⟨xs,at5,by have:=w.le; lia,ds.length - (i+1),by lia,hp,rfl,t,F5,ρc,accD++[y'],xs++[v],r,?_⟩;have cp:Chg (λb=>b=p) F5 H5 F5 (upd H5 p (.lst (xs++[v]))):=⟨λb o e n=>by rw [qu n]; exact e,λb e=>by
     by_cases q:b=p;·rw [q,ql]; simp
     ·rw [qu q]; exact e,Same.refl _,λb e=>.inl e⟩
    have sb5:Same F5 (upd H5 p (.lst (xs++[v]))):=λb o e=>by rw [qu (qx e nF5)]; exact h.sub b o e
    have rp6:Rep C.K (vV own nt cap) F5 (upd H5 p (.lst (xs++[v]))) l ρc:=by
     refine ⟨sb5,h.len,h.val,λi d hi e=>?_,h.opn,h.dis⟩;obtain ⟨a,h1,h2,h3⟩:=h.ow i d hi e;have na:a≠p:=λz=>by subst z; exact M f ⟨i,hi,h1⟩
     exact ⟨a,h1,h2,h3.grow (Same.refl _) λo z=>by rw [qu na]; exact z⟩
    refine ⟨rp6,f,?_,(gr4.trans c5.grow),ql,nF5,(Q.mono c5.grow).append (.cons mo5 .nil),by simp only [ai,aw,aX]; have:=w.le; lia,er,?_⟩;·exact (B.trans' c5).trans cp λb z=>.inr (by rw [z]; exact hp)
    ·rw [bV,<-w.all,hr]; rfl
   ·rw [Ab bq];exact ⟨ds.length - (i+1),by lia,hp,rfl,t,F4,Z,accD,xs,rest,rp4,f,B,gr4,at4,nF4,Q,by have:=w.le; lia,er,w.all⟩
  ·have e:i=ds.length:=by lia
   subst e;have run:=w.run;rw [List.drop_length] at run;unfold kj at run;cases run;have ha:=w.all;rw [aS] at ha;subst ha;exact .inl ⟨O.stop _ H1 (ao _) (w.gr.trans w.rep.sub),hp,σ1,F1,xs,w.rep,w.io,w.chg,w.at_,w.nF,w.is⟩
 ·rintro p L H' s' ⟨hp,σ1,F1,xs,r1,io1,c1,e1,n1,is1⟩ hns hfp hinv;exact hRR p L s' F1 H' hp (KU rp CO.nd r1 io1 c1) (c1.mono λb z=>KS io1 z) n1 ⟨xs,e1,is1⟩ hns hfp hinv
theorem gz:∀ (ds:List D) (ρ:Sl) (c:Str) (o:Sl),kj g ft fe ds ρ≠.exc c o:=by
 intro ds
 induction ds with
 | nil=>intro ρ c o z; cases z
 | cons d ds l=>
  intro ρ c o z;unfold kj KW at z;cases e:g d ρ with
  | exc c=>rw [e] at z; cases z
  | bad=>rw [e] at z; cases z
  | ok ρ1=>
   rw [e] at z;simp only [Out.plain,Out.og] at z;cases b:ft ρ1 with
   | exc c=>rw [b] at z; cases z
   | bad=>rw [b] at z; cases z
   | ok p=>
    rw [b] at z;simp only [Out.plain,Out.og] at z;by_cases h:p.1=d8
    ·rw [Aa h] at z;cases a:fe p.2 with
     | exc c=>rw [a] at z; cases z
     | bad=>rw [a] at z; cases z
     | ok r=>
      rw [a] at z;simp only [Out.plain,Out.og] at z;cases q:kj g ft fe ds r.2 with
      | exc c=>exact l _ _ _ q
      | bad=>rw [q] at z; cases z
      | ok t=>rw [q] at z; cases z
    ·rw [Ab h] at z;simp only [Out.og] at z;cases q:kj g ft fe ds p.2 with
     | exc c=>exact l _ _ _ q
     | bad=>rw [q] at z; cases z
     | ok t=>rw [q] at z; cases z
theorem KZ {α:Type} {Z:za->Prop} (r:Rep C.K own F H σ ρ) (b:¬Z .bad) (hx:∀ c ρ',Z (.exc c ρ')->∀ F' H',Same F' H'->JK C.K C.ox F' H' σ ρ'->Chg (OA own σ) F H F' H'->C.E (C.cv c) d6 H') (h:Z (jX own nt cap fi g ft fe ρ)):tIt C own fi σ H λJ H1=>∃ ds ρ1 ys ρe F1,ds.length<=sizeLine/\kj g ft fe ds (ki nt cap ρ1)=.ok (ys,ρe)/\Rep C.K own F1 H1 σ ρ1/\Chg (OA own σ) F H F1 H1/\ItIs C.K F1 J ds/\Z (.ok (.lst ys,jH own ρe nt cap ρ1)):=by
 refine ⟨F,ρ,r,?_⟩;unfold jX at h;cases q:fi ρ with
 | exc c=>rw [q] at h; exact hx c _ h
 | bad=>rw [q] at h; exact (b h).elim
 | ok p=>
  obtain ⟨ds,ρ1⟩:=p;rw [q] at h;have h:Z (if ds.length<=sizeLine then (kj g ft fe ds (ki nt cap ρ1)).bind λq=>.ok (.lst q.1,jH own q.2 nt cap ρ1) else .bad):=h;by_cases z:ds.length<=sizeLine
  ·rw [Aa z] at h;cases d:kj g ft fe ds (ki nt cap ρ1) with
   | exc c=>exact absurd d (gz _ _ _ _)
   | bad=>rw [d] at h; exact (b h).elim
   | ok p=>obtain ⟨ys,ρe⟩:=p;rw [d] at h;exact λJ F1 H1 a l it=>⟨ds,ρ1,ys,ρe,F1,z,d,a,l,it,h⟩
  ·rw [Ab z] at h; exact (b h).elim
theorem Xo (P:X.calm=d8) (S:ScOk X scope) (V:CapOk X scope N nt cap) (hi:PI X tg iter (tIt C own fi))
  (hg:∀ fp L s' H',PG (ji X scope N fp L s' H') tg (tGd (ctC C nt cap.length) (vV own nt cap) g)) (B:∀ fp L s' H',PTs (ji X scope N fp L s' H') ifs (tT (ctC C nt cap.length) (vV own nt cap) ft))
  (K:∀ fp L s' H',PE (ji X scope N fp L s' H') elt (tE (ctC C nt cap.length) (vV own nt cap) me fe)) (i:me≠.any:=by decide) (D:∀ x,fT iter X.env x=pure x:=by intro _; rfl) :
  PE X (.ListComp elt [⟨tg,iter,ifs,0⟩] scope pos) (tE C own .fr (jX own nt cap fi g ft fe)):=by
 refine ⟨?_⟩;intro pins s σ H Q I ⟨F,ρ,k,h⟩;rw [eval_ListComp];have n:=KZ (α:=Unit) (Z:=λr=>Po C own .fr σ F H r Q) k (λz=>z) (λc _ z=>z) h;refine wpAny_comprehension_free (use:=d6) rfl D (Jm (zk I S)) S.kind S.names (thn (hi pins s σ H _ I n) λY s1 h1=>thn h1 λt s2 h2=>?_);obtain ⟨it,fp,tn,J,H2,e,R,T,M,f2,ds,ρ1,ys,ρe,F1,y,a,b,l,O,po⟩:=h2;subst e;refine KY (RR:=λacc W=>compPost (model X.prog X.w) X.A X.xe d6 (EP X pins σ Q) acc W) R P S V T M f2 b O y hg B K i a λp L s' F' H' hp d U nF o f G v=>?_;obtain ⟨m,E⟩:=f;refine ⟨m,E,λh' j=>⟨.ref p,H',v h' j,rfl,?_⟩⟩;refine po (.ref p) F' H' d (l.trans' U) ⟨p,rfl,?_,nF,o⟩;cases q:H p with
 | none=>rfl
 | some u=>exact absurd hp (l.stay p (by rw [q]; simp))
end
def Fly (h:Heap) (ex T:Addr) (cls:d5):Prop:=∃ o vs a ts,h.get? ex=d4 o/\o.cls=cls/\o.data=.fields vs/\vs[1]?=d4 (.ref T)/\T≠ex/\h.get? T=d4 a/\a.data=.fields ts/\ts[3]?=d4 .none
def CXk (P:eH) (w:eI):CXT:=λouter H s E e s'=>∃ ex T C H',e=.ref ex/\s'.os=s.os/\fX s'.gens/\Un (frs outer) [] H H' s.heap s'.heap/\HOk P w H' s'.heap/\Fly s'.heap ex T (.ref C)/\H' ex=d6/\H' T=d6/\s.heap.get? ex=d6/\s.heap.get? T=d6/\E (.ref C) d6 H'
def InB (X:Cx) (H:Hp) (s:d9) (ex:Addr) (cls:d5):Prop:=H ex=d6/\X.s₀.heap.get? ex=d6 /\
 ((∃ o vs,s.heap.get? ex=d4 o/\o.cls=cls/\o.data=.fields vs/\vs[1]?=d4 .none)\/∃ T,Fly s.heap ex T cls/\H T=d6/\X.s₀.heap.get? T=d6)
variable {ex:Addr} {T0:Option Addr} {h2:Heap}
section
variable {cls:d5}
noncomputable def wu (ex:Addr) (T:Option Addr) (X:Cx):List Addr:=ex::(T.toList++frs X.stack)
theorem wv (I:Inv X pins σ H s) (d:b∈frs X.stack):∃ o,s.heap.get? b=d4 o/\∀ vs,o.data≠.fields vs:=(I.stack.mem d).2
theorem zl (c:X.stack=X.env::X.outer):∀ env∈X.stack,∀ b,env.frame=d4 b->b∈frs X.stack:=λenv i b d=>c8.mpr ⟨env,i,d⟩
structure Gone (X:Cx) (H:Hp) (s:d9) (ex:Addr) (cls:d5) (h2:Heap):Prop where
 keep:∀ b o,s.heap.get? b=d4 o->H b≠d6\/(X.s₀.heap.get? b≠d6/\b∉frs X.stack)->h2.get? b=d4 o
 slot:∀ b o,s.heap.get? b=d4 o->b∈frs X.stack->∃ sl,h2.get? b=d4 { o with slots:=sl }
 ok:HOk X.prog X.w H h2
 un:Un (frs X.stack) [] H H s.heap h2\/True
theorem Va {h2:Heap} (I:Inv X pins σ H s) (hex:H ex=d6) (hT:∀ T,T0=d4 T->H T=d6) (n1:X.s₀.heap.get? ex=d6) (n2:∀ T,T0=d4 T->X.s₀.heap.get? T=d6)
  (st:(aK s.heap (wu ex T0 X)).StaysIn h2) (sl:∀ b o,s.heap.get? b=d4 o->(∀ vs,o.data≠.fields vs)->∃ sl,h2.get? b=d4 { o with slots:=sl }):Gone X H s ex cls h2:=by
 have keep:∀ b o,s.heap.get? b=d4 o->b≠ex->(∀ T,T0=d4 T->b≠T)->b∉frs X.stack->h2.get? b=d4 o:=λb o e h1 h2 j=>st b o (bK _ e λm=>by
  rcases aa.mp m with q | m;·exact h1 q
  ·rcases aP.mp m with q | q;·exact h2 b (Option.mem_toList.mp q) rfl
   ·exact j q)
 have k1:∀ b o,s.heap.get? b=d4 o->H b≠d6->h2.get? b=d4 o:=λb o e n=>keep b o e (λq=>n (by rw [q]; exact hex)) (λT h q=>n (by rw [q]; exact hT T h)) λq=>n (I.stkFree b q);refine ⟨λb o e d=>?_,λb o e d=>?_,λb u e=>?_,.inr trivial⟩
 ·rcases d with d | ⟨d,hf⟩
  ·exact k1 b o e d
  ·exact keep b o e (λq=>d (by rw [q]; exact n1)) (λT h q=>d (by rw [q]; exact n2 T h)) hf
 ·obtain ⟨o',a,y⟩:=wv I d;rw [e] at a; cases a;exact sl b o e y
 ·refine (I.hok b u e).stay (λc v f q=>k1 c v q ?_) (λ_ q=>q) λ_ _ q=>q;rcases f with z | z;·rw [z,e]; simp
  ·rw [z]; simp
theorem zm (I:Inv X pins σ H s) (hT:∀ T,T0=d4 T->H T=d6) (n2:∀ T,T0=d4 T->X.s₀.heap.get? T=d6) (g:Gone X H s ex cls h2) (h:X.ex=[])
  (t:h2.Traced (aK s.heap (wu ex T0 X)) ex cls):∃ T,Fly h2 ex T cls/\H T=d6/\X.s₀.heap.get? T=none:=by
 obtain ⟨w,vs,T,x,ts,L,K,J,G,p,l,k,i,E⟩:=t;have c:∀ o,s.heap.get? T=d4 o->(∃ q,T0=d4 q/\T=q):=λo e=>by
  have m:T∈wu ex T0 X:=by refine Classical.byContradiction λB=>?_;rw [bK _ e B] at p;cases p
  rcases aa.mp m with q | m;·exact absurd q l
  ·rcases aP.mp m with q | q;·exact ⟨T,Option.mem_toList.mp q,rfl⟩
   ·obtain ⟨o',d,A⟩:=wv I q;obtain ⟨sl,j⟩:=g.slot T o' d q;rw [k] at j;cases j;exact absurd i (A ts)
 refine ⟨T,⟨w,vs,x,ts,L,K,J,G,l,k,i,E⟩,?_,?_⟩
 ·cases q:H T with
  | none=>rfl
  | some u=>
   have D:=I.hok.lt q;obtain ⟨o,e⟩:∃ o,s.heap.get? T=d4 o:=by
    have:=(I.hok T u q)
    have st:=this.stay (H':=H) (h':=s.heap) (λb v _ z=>z) (λ_ z=>z) λ_ _ z=>z;cases z:s.heap.get? T with
    | some o=>exact ⟨o,rfl⟩
    | none=>
     exfalso;cases u with
     | lst xs=>obtain ⟨_,_,_,_,e⟩:=st; rw [z] at e; cases e
     | tup xs=>obtain ⟨_,_,_,_,e,_⟩:=st; rw [z] at e; cases e
     | dK kvs=>obtain ⟨_,_,_,_,o,_,_,e,_⟩:=st; rw [z] at e; cases e
     | dT kvs=>obtain ⟨_,_,_,_,o,_,_,e,_⟩:=st; rw [z] at e; cases e
     | set S n=>obtain ⟨o,_,_,_,e,_⟩:=st; rw [z] at e; cases e
     | ins C dx fs=>obtain ⟨_,_,_,e,_⟩:=st; rw [z] at e; cases e
     | own y=>obtain ⟨_,e⟩:=st; rw [z] at e; cases e
     | xd fs=>obtain ⟨_,⟨_,_,_,e,_⟩,_⟩:=st; rw [z] at e; cases e
     | rng lo hi=>obtain ⟨_,_,_,e⟩:=st; rw [z] at e; cases e
     | frz M u=>obtain ⟨e,_⟩:=st; rw [z] at e; cases e
     | tbl ps=>have e:s.heap.get? T=d4 _:=st; rw [z] at e; cases e
     | met f y=>have e:s.heap.get? T=d4 _:=st; rw [z] at e; cases e
     | ext φ=>obtain ⟨_,⟨_,e⟩,_⟩:=st; rw [z] at e; cases e
   obtain ⟨r,a,rfl⟩:=c o e;rw [hT _ a] at q; cases q
 ·cases q:X.s₀.heap.get? T with
  | none=>rfl
  | some o=>obtain ⟨o',d⟩:=I.base.there T o q (by rw [h]; simp);obtain ⟨r,a,rfl⟩:=c o' d;rw [n2 _ a] at q; cases q
theorem Jo {E:d5->d9->Prop} {Q:Unit->d9->Prop} (I:Inv X pins σ H s) (h:X.stack=X.env::X.outer) (r:X.env.frame=d4 X.env.locals) (a:X.ex=[]) (x:InB X H s ex cls)
  (k:∀ h2 T,Gone X H s ex cls h2->Fly h2 ex T cls->H T=d6->X.s₀.heap.get? T=d6->Q () { s with heap:=h2 }):ez (model X.prog X.w) X.A (leaving X.env (.ref ex)) Q E s:=by
 obtain ⟨hex,n1,hx⟩:=x;have F:X.A.frames=d4 (X.env::X.outer):=by rw [I.ok.frames,h]
 have B:∀ as,(aK s.heap as).StaysIn s.heap:=λas b o e=>cq as e;have hl:∀ T0,s.heap.FunFrames (aK s.heap (wu ex T0 X)) (X.env::X.outer):=λT0=>by rw [<-h];exact PySem.W.funFrames_hide I.stack λenv C b D=>ac _ (aC _ (zl h env C b D))
 have u:∀ T0,(aK s.heap (wu ex T0 X)).get? ex=none:=λT0=>bF _ (aa.mpr (.inl rfl));rcases hx with ⟨q,vs,m,l,j,y⟩ | ⟨T,⟨q,vs,v,ts,m,l,j,y,L,K,J,G⟩,hT,n2⟩
 ·refine wpAny_leaving_first (base:=aK s.heap (wu ex d6 X)) F (hl d6) r m (B _) (u d6) j y λh2 ⟨st,_,t,sl⟩=>?_;have g:Gone X H s ex cls h2:=Va I hex (T0:=d6) (λ_ z=>nomatch z) n1 (λ_ z=>nomatch z) st sl;rw [l] at t;obtain ⟨p,f1,f2,i⟩:=zm I (T0:=d6) (λ_ z=>nomatch z) (λ_ z=>nomatch z) g a t;exact k h2 p g f1 f2 i
 ·have d:∀ c,d4 T=d4 c->H c=none:=λc z=>by cases z; exact hT
  have n:∀ c,d4 T=d4 c->X.s₀.heap.get? c=none:=λc z=>by cases z; exact n2
  have f:s.heap.Traced (aK s.heap (wu ex (d4 T) X)) ex cls:=⟨q,vs,T,v,ts,m,l,j,y,bF _ (ac _ (bu _ (by simp))),L,K,J,G⟩
  refine wpAny_leaving_next (base:=aK s.heap (wu ex (d4 T) X)) F (hl (d4 T)) r f (B _) (u _) λh2 ⟨st,_,t,sl⟩=>?_;have g:Gone X H s ex cls h2:=Va I hex d n1 n st sl;obtain ⟨p,f1,f2,i⟩:=zm I d n g a t;exact k h2 p g f1 f2 i
end
variable {A:eZ} {P:eH} {w:eI} {mg:Str->Option d5} {base h:Heap} {qual:Str} {cd:d5} {outer:List Env} {s0:d9}
section
variable {E:XK}
abbrev cxk (P:eH) (w:eI) (K:Frag) (mg:Str->Option d5) (base:Heap) (N:List Str) (qual:Str) (scope:fN) (f:Addr) (cd:d5) (A:eZ) (outer:List Env) (s0:d9) (H0:Hp) (E:XK):Cx:=YM (CXk P w) P w K mg base N qual scope f cd A outer s0 H0 E
theorem Gw {C:Addr} (I:Inv (cxk P w K mg base N qual scope f cd A outer s0 H0 E) pins σ H s) (x:InB (cxk P w K mg base N qual scope f cd A outer s0 H0 E) H s ex (.ref C)) (k:E (.ref C) d6 H):(cxk P w K mg base N qual scope f cd A outer s0 H0 E).xe (.ref ex) s:=by
 refine Jo I rfl rfl rfl x λh2 T g l hT j=>?_;have a:=I.base;have L:∀ b o,s0.heap.get? b=d4 o->b≠(cxk P w K mg base N qual scope f cd A outer s0 H0 E).env.locals:=λb o e=>aE (au (am e) I.ok.above);have t:∀ b o,s0.heap.get? b=d4 o->b∉frs outer->b∉frs (cxk P w K mg base N qual scope f cd A outer s0 H0 E).stack:=λb o e d z=>by
  rcases aa.mp (I.stkSub b z) with q | q;·exact L b o e q
  ·exact d q
 have i:∀ b,b∈frs outer->b∈frs (cxk P w K mg base N qual scope f cd A outer s0 H0 E).stack:=λb d=>by show b∈frs (_::outer);unfold frs;rw [aN];exact ac _ d
 refine ⟨ex,T,C,H,rfl,I.os,I.bare,⟨λb o e n d hx=>?_,λb o e n d hx=>?_,a.free,λb o e hx=>?_,a.tups,a.frzs,a.tbls⟩,g.ok,l,x.1,hT,x.2.1,j,k⟩;·exact g.keep b o (a.keep b o e n d hx) (.inr ⟨by show s0.heap.get? b≠d6; rw [e]; simp,t b o e d⟩)
 ·obtain ⟨sl,q⟩:=a.slot b o e n d hx;obtain ⟨c,h⟩:=g.slot b _ q (i b d);exact ⟨c,h⟩
 ·obtain ⟨o',q⟩:=a.there b o e hx;by_cases d:b∈frs (cxk P w K mg base N qual scope f cd A outer s0 H0 E).stack;·obtain ⟨sl,h⟩:=g.slot b o' q d;exact ⟨_,h⟩
  ·exact ⟨o',g.keep b o' q (.inr ⟨by show s0.heap.get? b≠d6; rw [e]; simp,d⟩)⟩
theorem Xp {e:d5} (a:X.ex=[]) (I:Inv X pins σ H s) (h:CXk X.prog X.w X.stack H s E e s'):∃ ex C H',e=.ref ex/\Inv X pins σ H' s'/\InB X H' s' ex (.ref C)/\E (.ref C) d6 H':=by
 obtain ⟨ex,T,C,H',rfl,os,bare,un,hok,l,e1,j,n1,n2,k⟩:=h;have old:∀ b,s.heap.get? b=d6->X.s₀.heap.get? b=none:=λb d=>by
  cases q:X.s₀.heap.get? b with
  | none=>rfl
  | some o=>obtain ⟨o',c⟩:=I.base.there b o q (by rw [a]; simp);rw [d] at c; cases c
 exact ⟨ex,C,H',rfl,I.call' (ch:=[]) os un hok bare (λb z=>absurd z (by simp)),⟨e1,old ex n1,.inr ⟨T,l,j,old T n2⟩⟩,k⟩
theorem qbf:jr (CXk P w) (cxk P w K mg base N qual scope f cd A outer s0 H0 E) E:=λpins σ H s e s' I h=>by obtain ⟨ex,C,H',rfl,b,x,k⟩:=Xp rfl I h;exact Gw b x k
theorem Xq {C:Addr} {b:List d5} {d:String} (kin:K.In h) (c:mg x=d4 (.ref C)) (q:cm K C b d=d8):OwnCls x C b d mg h:=by
 refine ⟨c,?_⟩;unfold cm at q;split at q
 case h_2=>cases q
 case h_1 dd cd sl lk=>
  split at q
  case h_2=>cases q
  case h_1 C' bm a0 a1 a2 a3 n a5 em es=>
   have g:=q;simp only [aA,beq_iff_eq,dh] at g;obtain ⟨⟨⟨⟨⟨e1,j⟩,l⟩,tl⟩,k⟩,t⟩:=g;obtain ⟨nm,bs,mro,ns,a,hd,sn,sub,ab,col,del⟩:=cd;dsimp only at em l k t;obtain ⟨s⟩:=sl;dsimp only at es;subst em l es e1 j;exact ⟨bm,ns,nm,a,bs,hd,sn,sub,ab,col,dd,a0,a1,a2,a3,a5,_,kin _ _ lk,.of_isNs (PySem.W.isNs_of_in kin k),PySem.W.nsMap_none_of_in kin k t,PySem.W.tail_of_in kin tl⟩
end
theorem Yp {T:Addr} (hok:HOk P w H h) (q:H T=d4 u):∃ o,h.get? T=d4 o:=by
 have st:=hok T u q;cases z:h.get? T with
 | some o=>exact ⟨o,rfl⟩
 | none=>
  exfalso;cases u with
  | lst xs=>obtain ⟨_,_,_,_,e⟩:=st; rw [z] at e; cases e
  | tup xs=>obtain ⟨_,_,_,_,e,_⟩:=st; rw [z] at e; cases e
  | dK kvs=>obtain ⟨_,_,_,_,o,_,_,e,_⟩:=st; rw [z] at e; cases e
  | dT kvs=>obtain ⟨_,_,_,_,o,_,_,e,_⟩:=st; rw [z] at e; cases e
  | set S n=>obtain ⟨o,_,_,_,e,_⟩:=st; rw [z] at e; cases e
  | ins C dx fs=>obtain ⟨_,_,_,e,_⟩:=st; rw [z] at e; cases e
  | own y=>obtain ⟨_,e⟩:=st; rw [z] at e; cases e
  | xd fs=>obtain ⟨_,⟨_,_,_,e,_⟩,_⟩:=st; rw [z] at e; cases e
  | rng lo hi=>obtain ⟨_,_,_,e⟩:=st; rw [z] at e; cases e
  | frz b u=>obtain ⟨e,_⟩:=st; rw [z] at e; cases e
  | tbl ps=>have e:h.get? T=d4 _:=st; rw [z] at e; cases e
  | met f y=>have e:h.get? T=d4 _:=st; rw [z] at e; cases e
  | ext φ=>obtain ⟨_,⟨_,e⟩,_⟩:=st; rw [z] at e; cases e
abbrev bmV:List d5:=[.type "ValueError",.type "Exception",.type "BaseException",.type "object"]
noncomputable def kY (x:Str) (fr:kP):qP:=λρ=>(fr ρ).bind λp=>.exc x p.2
theorem PoS.bindA {as:List AK} {o:Out (List D×Sl)} {k:List D×Sl->Out (Fl×Sl)} {D:Ends} {R:List V->Hp->Prop} (hp:PoS C own own' σ F H (o.bind k) D)
  (h:∀ vs F1 H1 ds ρ1,Rep C.K own F1 H1 σ ρ1->Chg (OA own σ) F H F1 H1->ArgV C.K H F1 H1 σ as vs ds->PoS C own own' σ F1 H1 (k (ds,ρ1)) D->R vs H1):PoA C own as σ F H o R:=by
 cases o with
 | ok p=>obtain ⟨ds,ρ1⟩:=p;exact λvs F1 H1 a c v=>h vs F1 H1 ds ρ1 a c v (PoS.shift (show PoS C own own' σ F H (k (ds,ρ1)) D from hp) (.ofE a c))
 | exc x=>exact hp
 | bad=>exact hp.elim
def Qs (X:Cx) (C:Ct):Prop:=∀ (pins:Pns) (σ:St) (H:Hp) (s:d9) (ex A:Addr),Inv X pins σ H s->InB X H s ex (.ref A)->C.E (.ref A) d6 H->X.xe (.ref ex) s
theorem Gx:Qs (cxk P w K mg base N qual scope f cd A outer s0 H0 C.E) C:=λpins σ H s ex A I x k=>Gw I x k
variable {Cc:Addr} {cpos:Pos}
section
variable {fr:kP} {np:Pos}
theorem ArgV.len:∀ {as:List AK} {vs:List V} {ds:List D},ArgV K H0 F H σ as vs ds->vs.length=as.length
 | [],[],[],_=>rfl
 | .vl::as,v::vs,d::ds,h=>congrArg (·+1) (ArgV.len h.2)
 | .sl i::as,v::vs,d::ds,h=>congrArg (·+1) (ArgV.len h.2.2)
 | .fr::as,v::vs,d::ds,h=>congrArg (·+1) (ArgV.len h.2)
 | [],_::_,_,h=>h.elim
 | [],[],_::_,h=>h.elim
 | .vl::_,[],_,h=>h.elim
 | .vl::_,_::_,[],h=>h.elim
 | .sl _::_,[],_,h=>h.elim
 | .sl _::_,_::_,[],h=>h.elim
 | .fr::_,[],_,h=>h.elim
 | .fr::_,_::_,[],h=>h.elim
theorem Vb (c:X.ex=[]) (w:Qs X C) (P:X.calm=d8) (hg:Gl X x) (m:X.mg x=d4 (.ref Cc)) (v:C.cv x=.ref Cc) (q:cm X.K Cc bmV "ValueError.__new__"=d8) (B:PA X (e::es) (tAr C own as fr)) (z:as.length<=1000:=by decide) (g:∀ i∈C.ox,i∈own:=by exact jm rfl) (hd:Dbg x:=by decide)
  (j:eh (e::es) X.env=(d7,eval e X.env)::eh es X.env:=by exact qK rfl) (l:(e9 cpos (eh es X.env)).any (·.1)=false:=by rfl) :
  PS X (.Raise (d4 (.Call (.Name x np) (e::es) [] cpos)) d6 pos) (tSt C own own' (kY x fr)):=by
 refine ⟨?_⟩;intro pins s σ H D I ⟨F,ρ,r,h⟩;obtain ⟨tl,N,nm,p,bs,hdct,sn,sub,ab,col,dd,k0,k1,k2,k3,k5,mN,hC,G,f,T⟩:=(Xq I.ok.mod.kin m q).obj;refine wpAny_Raise_call_subT (C:=Cc) (nm:=nm) (q:=p) (N:=N) (bs:=bs) (bm:=tl) (hdct:=hdct) (sn:=sn) (sub:=sub) (ab:=ab) (col:=col) (dd:=dd) (k0:=k0) (k1:=k1) (k2:=k2) (k3:=k3) (k5:=k5)
  PySem.F.excBase_ValueError (mN:=mN) (T.hasType PySem.F.excBase_ValueError.hasBase) (I.ok.hd P) (by rw [j]; show (d7||(e9 cpos (eh es X.env)).any (·.1))=d7; rw [l]; rfl) f (wP I hg m ⟨rfl,?_⟩ hd)
 have n:tAr C own as fr σ H λvs H1=>vs.length<=sizeLine/\C.E (.ref Cc) d6 H1:=by
  refine ⟨F,ρ,r,PoS.bindA h λvs F1 H1 ds ρ1 a Q L h1=>⟨?_,?_⟩⟩;·rw [L.len]; exact br z (by rw [ff]; decide)
  ·rw [<-v]; exact h1 F1 H1 a.sub (a.ioIs g) .refl
 have run:=B cpos pins s σ H _ I n;rw [j] at run ⊢;refine cP (fI run (λus s2 ⟨vs,H2,d,r2,M,J⟩=>?_) λ_ _ y=>y);refine ⟨rfl,by rw [<-r2.length]; exact M,d.bk _ _ hC,G.keeps d.bk,T.keeps d.bk,λh' ex mk=>?_⟩;have U:Inv X pins σ H2 { s2 with heap:=h' }:=d.kept (t':=s2.toks) mk.keeps;obtain ⟨t,h1,h2,O⟩:=mk.there;refine w pins σ H2 _ ex Cc U ⟨?_,?_,.inl ⟨_,_,h1,rfl,rfl,rfl⟩⟩ J
 ·cases b:H2 ex with
  | none=>rfl
  | some u=>have A:=d.hok.lt b;refine absurd mk.new ?_;obtain ⟨o,e⟩:=Yp d.hok b;rw [e]; simp
 ·cases b:X.s₀.heap.get? ex with
  | none=>rfl
  | some o=>obtain ⟨o',k⟩:=d.base.there ex o b (by rw [c]; simp);rw [mk.new] at k; cases k
end
structure Caught (X:Cx) (pins:Pns) (H:Hp) (s:d9) (ex T Cc:Addr):Prop where
 fly:Fly s.heap ex T (.ref Cc)
 hex:H ex=d6
 hT:H T=d6
 n1:X.s₀.heap.get? ex=d6
 n2:X.s₀.heap.get? T=d6
 pp:∀ p∈X.pn++pins,p.1≠ex/\p.1≠T
variable {xe:d5->d9->Prop}
section
variable {T:Addr}
theorem Caught.dex (c:Caught X pins H s ex T Cc):∃ o vs,s.heap.get? ex=d4 o/\o.data=.fields vs:=let ⟨o,vs,b,ts,a,k,z,_⟩:=c.fly; ⟨o,vs,a,z⟩
theorem Caught.dT (c:Caught X pins H s ex T Cc):∃ o vs,s.heap.get? T=d4 o/\o.data=.fields vs:=let ⟨o,vs,a,ts,d,b,z,y,q,l,k,_⟩:=c.fly; ⟨a,ts,l,k⟩
theorem Qt {h2:Heap} (I:Inv X pins σ H s) (g:X.stack=X.env::X.outer) (j:X.env.frame=d4 X.env.locals) (K:X.ex=[]) (c:Caught X pins H s ex T Cc)
  (keep:∀ b o,s.heap.get? b=d4 o->b≠ex->b≠T->b∉frs X.stack->h2.get? b=d4 o)
  (slot:∀ b o,s.heap.get? b=d4 o->b∈frs X.stack->∃ sl,h2.get? b=d4 { o with slots:=sl }):Inv X pins σ H { s with heap:=h2 }:=by
 obtain ⟨F,ve,N,S⟩:=c.dex;obtain ⟨oT,Z,hT,dT⟩:=c.dT;have G:∀ b o,s.heap.get? b=d4 o->(∀ vs,o.data≠.fields vs)->b≠ex/\b≠T:=λb o e n=>by
  constructor;·rintro rfl; rw [N] at e; cases e; exact n _ S
  ·rintro rfl; rw [hT] at e; cases e; exact n _ dT
 have Y:X.env.locals∈frs X.stack:=by rw [g]; unfold frs; rw [aN,j]; exact aI
 have L:∀ b o,X.s₀.heap.get? b=d4 o->b≠X.env.locals:=λb o e=>aE (au (am e) I.ok.above);have w:∀ b o,X.s₀.heap.get? b=d4 o->b∉X.fs->b∉frs X.stack:=λb o e h z=>by
  rcases aa.mp (I.stkSub b z) with q | q;·exact L b o e q
  ·exact h q
 have y:∀ b,b∈X.fs->b∈frs X.stack:=λb h=>by rw [g]; unfold frs; rw [aN,j]; exact ac _ h
 have f:∀ b o,X.s₀.heap.get? b=d4 o->b≠ex/\b≠T:=λb o e=>⟨(by rintro rfl; rw [c.n1] at e; cases e),(by rintro rfl; rw [c.n2] at e; cases e)⟩
 have A:∀ {a:Addr} {v:Option d5},s.heap.IsCell a v->h2.IsCell a v:=λ{a v} ⟨oc,e1,l⟩=>by
  have q:=G a oc e1 λvs z=>by rw [l] at z; cases z
  by_cases h:a∈frs X.stack;·obtain ⟨sl,z⟩:=slot a oc e1 h;exact ⟨_,z,l⟩
  ·exact ⟨oc,keep a oc e1 q.1 q.2 h,l⟩
 refine ⟨I.ok,I.os,I.bare,⟨λb o e n h hx=>?_,λb o e n h hx=>?_,I.base.free,λb o e hx=>?_,I.base.tups,I.base.frzs,I.base.tbls⟩,?_,λx a e=>?_,I.free,I.freeC,λp hp=>?_,λb u e=>?_,I.len⟩;·exact keep b o (I.base.keep b o e n h hx) (f b o e).1 (f b o e).2 (w b o e h)
 ·obtain ⟨sl,q⟩:=I.base.slot b o e n h hx;obtain ⟨t,E⟩:=slot b _ q (y b h);exact ⟨t,E⟩
 ·obtain ⟨o',q⟩:=I.base.there b o e hx;by_cases h:b∈frs X.stack;·obtain ⟨sl,z⟩:=slot b o' q h;exact ⟨_,z⟩
  ·exact ⟨o',keep b o' q (f b o e).1 (f b o e).2 h⟩
 ·obtain ⟨m,⟨o,es,Q,M,r⟩,hl⟩:=I.loc;obtain ⟨sl,P⟩:=slot _ o M Y;refine ⟨m,⟨_,es,Q,P,r⟩,λi x v e1 l R=>?_⟩;obtain ⟨u,D,J⟩:=hl i x v e1 l R;refine ⟨u,D,?_⟩;rcases J with z | ⟨k,a,e,z⟩
  ·exact .inl z
  ·exact .inr ⟨k,a,e,A z⟩
 ·obtain ⟨v,z⟩:=I.cell x a e;exact ⟨v,A z⟩
 ·obtain ⟨W,V,C,B,U⟩:=I.pin p hp;refine ⟨keep p.1 p.2 W (c.pp p hp).1 (c.pp p hp).2 λz=>?_,V,C,B,U⟩;rcases aa.mp (I.stkSub p.1 z) with q | q;·exact C q
  ·exact B q
 ·refine (I.hok b u e).stay (λd v O q=>?_) (λ_ q=>q) λ_ _ q=>q;have hd:H d≠none:=by
   rcases O with z | z;·rw [z,e]; simp
   ·rw [z]; simp
  exact keep d v q (λz=>hd (by rw [z]; exact c.hex)) (λz=>hd (by rw [z]; exact c.hT)) λz=>hd (I.stkFree d z)
theorem yH {C:d5} (I:Inv X pins σ H s) (h:X.ex=[]) (c:Caught X pins H s ex T Cc) (slot:∀ b o,s.heap.get? b=d4 o->b∈frs X.stack->∃ sl,h2.get? b=d4 { o with slots:=sl })
  (t:h2.TracedW (aK s.heap (wu ex (d4 T) X)) ex (.ref Cc) C):∃ a,Caught X pins H { s with heap:=h2 } ex a Cc:=by
 obtain ⟨l,vs,a,r,ts,B,⟨A,_⟩,z,x,k,i,g,f,w⟩:=t;have n:∀ o,s.heap.get? a=d4 o->a=T:=λo e=>by
  have m:a∈wu ex (d4 T) X:=by refine Classical.byContradiction λv=>?_;rw [bK _ e v] at k;cases k
  rcases aa.mp m with q | m;·exact absurd q i
  ·rcases aP.mp m with q | q;·simpa using q
   ·obtain ⟨o',d,y⟩:=wv I q;obtain ⟨sl,j⟩:=slot a o' d q;rw [g] at j;cases j;exact absurd f (y ts)
 refine ⟨a,⟨l,vs,r,ts,B,A,z,x,i,g,f,w⟩,c.hex,?_,c.n1,?_,λp hp=>⟨(c.pp p hp).1,?_⟩⟩
 ·cases q:H a with
  | none=>rfl
  | some u=>obtain ⟨o,e⟩:=Yp I.hok q;rw [n o e,c.hT] at q; cases q
 ·cases q:X.s₀.heap.get? a with
  | none=>rfl
  | some o=>obtain ⟨o',d⟩:=I.base.there a o q (by rw [h]; simp);rw [n o' d,c.n2] at q; cases q
 ·rintro rfl;exact (c.pp p hp).2 (n _ (I.pin p hp).1)
theorem yI (st:(aK s.heap (wu ex (d4 T) X)).StaysIn h2):∀ b o,s.heap.get? b=d4 o->b≠ex->b≠T->b∉frs X.stack->h2.get? b=d4 o:=λb o e h1 h2 j=>st b o (bK _ e λc=>by
  rcases aa.mp c with q | c;·exact h1 q
  ·rcases aP.mp c with q | q;·exact h2 (by simpa using q)
   ·exact j q)
theorem zn (c:Caught X pins H s ex T Cc):∃ e,s.heap.TracedW (aK s.heap (wu ex (d4 T) X)) ex (.ref Cc) e:=by obtain ⟨o,vs,a,ts,d,b,z,y,q,l,k,i⟩:=c.fly;have C:0 < vs.size:=Nat.lt_of_succ_lt (Array.getElem?_eq_some_iff.mp y).1;exact ⟨vs[0],o,vs,T,a,ts,d,⟨b,by simp [C]⟩,z,y,bF _ (ac _ (bu _ (by simp))),q,l,k,i⟩
theorem yJ (I:Inv X pins σ H s) (h:X.stack=X.env::X.outer):s.heap.FunFrames (aK s.heap (wu ex (d4 T) X)) (X.env::X.outer):=by rw [<-h];exact PySem.W.funFrames_hide I.stack λenv i b d=>ac _ (aC _ (zl h env i b d))
theorem Vc {E:d5->d9->Prop} {Q:Unit->d9->Prop} (hA:A.frames=d4 X.stack) (I:Inv X pins σ H s) (h:X.stack=X.env::X.outer) (r:X.env.frame=d4 X.env.locals) (a:X.ex=[]) (c:Caught X pins H s ex T Cc)
  (k:∀ s' p,Inv X pins σ H s'->Caught X pins H s' ex p Cc->Q () s'):ez (model X.prog X.w) A (noteFrame (.ref ex) X.env) (λ_ s1=>ez (model X.prog X.w) A (setFlight (.ref ex) d6) Q E s1) E s:=by
 obtain ⟨C,t⟩:=zn c;refine wpAny_looks_onW (by rw [hA,h]) r ⟨λb o e=>cq _ e,bF _ (aa.mpr (.inl rfl)),yJ I h,t⟩ λh1 d i=>?_;refine wpAny_landsW d λh2 l u=>?_;have slot:∀ b o,s.heap.get? b=d4 o->b∈frs X.stack->∃ sl,h2.get? b=d4 { o with slots:=sl }:=λb o e m=>by obtain ⟨o',g,y⟩:=wv I m;rw [e] at g; cases g;obtain ⟨sl,q⟩:=i b o e y;obtain ⟨f,j⟩:=u b _ q y;exact ⟨f,j⟩
 obtain ⟨p,U⟩:=yH I a c slot l.2.2.2;have n:Inv X pins σ H { s with heap:=h2 }:=Qt I h r a c (yI l.1) slot;exact k { s with heap:=h2 } p n U
theorem gA {A:eZ} {E:d5->d9->Prop} {Q:Unit->d9->Prop} (I:Inv X pins σ H s) (h:X.stack=X.env::X.outer) (r:X.env.frame=d4 X.env.locals) (a:X.ex=[]) (c:Caught X pins H s ex T Cc)
  (k:∀ s' p,Inv X pins σ H s'->Caught X pins H s' ex p Cc->Q () s'):ez (model X.prog X.w) A (setFlight (.ref ex) d6) Q E s:=by
 obtain ⟨C,f⟩:=zn c;refine wpAny_setFlight_noneW (base:=aK s.heap (wu ex (d4 T) X)) (λb o e=>cq _ e) (yJ I h) f λh2 st _ t kp=>?_;have slot:∀ b o,s.heap.get? b=d4 o->b∈frs X.stack->∃ sl,h2.get? b=d4 { o with slots:=sl }:=λb o e g=>by obtain ⟨o',d,y⟩:=wv I g;rw [e] at d; cases d;exact ⟨o.slots,kp b o e y⟩
 obtain ⟨p,U⟩:=yH I a c slot t;exact k _ p (Qt I h r a c (yI st) slot) U
theorem qbg (I:Inv X pins σ H s) (c:Caught X pins H s ex T Cc):Inv X pins σ (upd H ex (gl ex Cc)) s:=by
 obtain ⟨g,vs,w,ts,f,t,h,_⟩:=c.fly;have y:∀ b o,s.heap.get? b=d4 o->(∀ vs,o.data≠.fields vs)->b≠ex:=λb o e n=>by rintro rfl; rw [f] at e; cases e; exact n _ h
 have up:∀ {b:Addr} {u:HO},H b=d4 u->upd H ex (gl ex Cc) b=d4 u:=λ{b u} e=>by rw [qu (qx e c.hex)]; exact e
 refine ⟨I.ok,I.os,I.bare,⟨I.base.keep,I.base.slot,λb o e n hx=>?_,I.base.there,λb xs e=>up (I.base.tups b xs e),λb o u e=>up (I.base.frzs b o u e),λb ps e=>?_⟩,I.loc,I.cell,?_,λx a e=>?_,λp hp=>?_,λb u e=>?_,I.len⟩;·rw [qu (by rintro rfl; rw [c.n1] at e; cases e)]; exact I.base.free b o e n hx
 ·obtain ⟨more,z⟩:=I.base.tbls b ps e;exact ⟨more,up z⟩
 ·obtain ⟨m,⟨o,es,C,k,hd,_⟩,_⟩:=I.loc;rw [qu (y _ o k λvs z=>by rw [hd] at z; cases z)]; exact I.free
 ·obtain ⟨v,oc,e1,j⟩:=I.cell x a e;rw [qu (y _ oc e1 λvs z=>by rw [j] at z; cases z)]; exact I.freeC x a e
 ·obtain ⟨B,A,l⟩:=I.pin p hp;refine ⟨B,?_,l⟩;rw [qu (c.pp p hp).1]; exact A
 ·by_cases q:b=ex;·subst q;rw [ql] at e; cases e;refine ⟨⟨g,vs,f,t,h⟩,⟨g,f⟩,λh1 h2 ⟨o1,i,e1,j,E⟩ r=>⟨o1,i,r _ e1,j,E⟩⟩
  ·rw [qu q] at e;exact (I.hok b u e).stay (λ_ _ _ z=>z) (λd z=>up z) λd xs z=>up z
def gB (X:Cx) (pn:Pns) (xe:d5->d9->Prop):Cx:={ X with pn:=pn,xe:=xe }
theorem Xr (I:Inv X pins σ H s):Inv (gB X (X.pn++pins) xe) [] σ H s:=
 ⟨⟨I.ok.mod,I.ok.kind,I.ok.glob,I.ok.blt,I.ok.above,I.ok.inj,I.ok.has,I.ok.cab,I.ok.hd,I.ok.frames,I.ok.stk,I.ok.exf,I.ok.bs,I.ok.bsz,I.ok.noex,I.ok.exfs,I.ok.funs,I.ok.frf⟩,I.os,I.bare,I.base,I.loc,I.cell,I.free,I.freeC,λp hp=>I.pin p (by simpa [gB] using hp),I.hok,I.len⟩
theorem kZ {a:Pns} (I:Inv (gB X (X.pn++pins) xe) a σ H s):Inv X pins σ H s:=
 ⟨⟨I.ok.mod,I.ok.kind,I.ok.glob,I.ok.blt,I.ok.above,I.ok.inj,I.ok.has,I.ok.cab,I.ok.hd,I.ok.frames,I.ok.stk,I.ok.exf,I.ok.bs,I.ok.bsz,I.ok.noex,I.ok.exfs,I.ok.funs,I.ok.frf⟩,I.os,I.bare,I.base,I.loc,I.cell,I.free,I.freeC,λp hp=>I.pin p (bu _ hp),I.hok,I.len⟩
noncomputable def qaA (X:Cx) (e:d5):Cx:={ X with A:=X.A.mark (d4 e),calm:=d7,xe:=λ_ _=>False }
theorem Yq {e:d5} (I:Inv X pins σ H s):Inv (qaA X e) pins σ H s:=
 ⟨⟨I.ok.mod,I.ok.kind,I.ok.glob,I.ok.blt,I.ok.above,I.ok.inj,I.ok.has,I.ok.cab,λz=>absurd z (by show ¬(d7=d8); exact bq),I.ok.frames,I.ok.stk,I.ok.exf,I.ok.bs,I.ok.bsz,I.ok.noex,I.ok.exfs,I.ok.funs,I.ok.frf⟩,I.os,I.bare,I.base,I.loc,I.cell,I.free,I.freeC,I.pin,I.hok,I.len⟩
theorem Xu {e:d5} (hok:X.Ok) (I:Inv (qaA X e) pins σ H s):Inv X pins σ H s:=
 ⟨hok,I.os,I.bare,I.base,I.loc,I.cell,I.free,I.freeC,I.pin,I.hok,I.len⟩
theorem Jp {g:Str->Option d5} {t:Nat} (I:Inv X pins σ H s) (k:X.stack=X.env::X.outer) (r:X.env.frame=d4 X.env.locals) (h:h'.Ns X.env.locals g) (A:bB X.env.locals s.heap h'):Inv X pins (σ.map λ_=>d6) H { s with heap:=h',toks:=t }:=by
 have L:∀ b o,X.s₀.heap.get? b=d4 o->b≠X.env.locals:=λb o e=>aE (au (am e) I.ok.above);obtain ⟨m,⟨E,es,G,Z,c,_⟩,_⟩:=id I.loc;have y:∀ {a:Addr} {v:Option d5},s.heap.IsCell a v->a≠X.env.locals:=λ{a v} ⟨oc,e1,j⟩=>by rintro rfl; rw [Z] at e1; cases e1; rw [c] at j; cases j
 refine ⟨I.ok,I.os,I.bare,⟨λb o e n f hx=>(A.2 b (L b o e)).trans (I.base.keep b o e n f hx),λb o e n f hx=>?_,I.base.free,λb o e hx=>?_,I.base.tups,I.base.frzs,I.base.tbls⟩,⟨g,h,λi x v e1 j=>?_⟩,λx a e=>?_,I.free,I.freeC,λp hp=>?_,λb u e=>?_,by simp [I.len]⟩;·obtain ⟨sl,q⟩:=I.base.slot b o e n f hx;exact ⟨sl,(A.2 b (L b o e)).trans q⟩
 ·obtain ⟨o',q⟩:=I.base.there b o e hx;exact ⟨o',(A.2 b (L b o e)).trans q⟩
 ·simp only [aM] at j;cases q:σ[i]? <;> rw [q] at j <;> cases j
 ·obtain ⟨v,z⟩:=I.cell x a e;exact ⟨v,z.sameBut A (y z)⟩
 ·obtain ⟨D,C,l,B⟩:=I.pin p hp;exact ⟨(A.2 p.1 l).trans D,C,l,B⟩
 ·refine (I.hok b u e).stay (λd v w q=>(A.2 d ?_).trans q) (λ_ q=>q) λ_ _ q=>q;rintro rfl;rcases w with z | z;·rw [<-z,I.free] at e; cases e
  ·rw [I.free] at z; cases z
end
def qbh (C:Ct) (own:List Nat) (E:XK):Ct:=⟨C.K,C.cv,E,own,C.mr,C.ol,own,λ_ h=>h⟩
noncomputable def exC (C:Ct):Ct:=⟨C.K,C.cv,λ_ _ _=>False,[],C.mr,[],[],λ_ h=>h⟩
noncomputable def xQ (n:Nat) (j:Option Nat) (hit:Str->Option Addr) (fb fs:qP):qP:=λρ=>match fb ρ with
 | .exc c ρe=>match hit c with
  | some Cc=>match fs (match j with | some j=>(aj n d6).set j (d4 (.xcp Cc)) | none=>aj n d6) with
   | .ok (.rt d,_)=>.ok (.rt d,ρe)
   | _=>.bad
  | none=>.bad
 | o=>o
def qbi (C:Ct) (own:List Nat) (σ:St) (F H:Hp) (r:Out (Fl×Sl)):XK:=λcls _ H'=>∃ c ρe F',r=.exc c ρe/\cls=C.cv c/\Same F' H'/\JK C.K own F' H' σ ρe/\Chg (OA own σ) F H F' H'
def qbj (X:Cx) (pins:Pns) (E:XK):d5->d9->Prop:=λe s'=>∃ σ ex T Cc H',e=.ref ex/\Inv X pins σ H' s'/\Caught X pins H' s' ex T Cc/\E (.ref Cc) d6 H'
section
variable {fb fs:qP}
theorem Jq {E:XK} (c:X.ex=[]):jr (CXk X.prog X.w) (gB X (X.pn++pins) (qbj X pins E)) E:=λa σ H s e s' I h=>by
 obtain ⟨ex,T,Cc,H',rfl,os,bare,un,hok,l,e1,j,n1,n2,k⟩:=h;have old:∀ b,s.heap.get? b=d6->X.s₀.heap.get? b=none:=λb f=>by
  cases q:X.s₀.heap.get? b with
  | none=>rfl
  | some o=>obtain ⟨o',d⟩:=I.base.there b o q (by show b∉X.ex; rw [c]; simp);rw [f] at d; cases d
 have g:Inv (gB X (X.pn++pins) (qbj X pins E)) a σ H' s':=I.call' (ch:=[]) os un hok bare (λb z=>absurd z (by simp));refine ⟨σ,ex,T,Cc,H',rfl,kZ g,⟨l,e1,j,old ex n1,old T n2,λp hp=>?_⟩,k⟩;have q:=(I.pin p (bu _ hp)).1;exact ⟨λz=>(by rw [z,n1] at q; cases q),λz=>(by rw [z,n2] at q; cases q)⟩
theorem Nx.untry {E:XK} {σ':St} {ρ':Sl} (g:∀ i∈C.io,i∈own) (n:Nx (qbh C own E) o1 o2 σ F H ρ' σ' F' H'):Nx C o1 o2 σ F H ρ' σ' F' H':=⟨n.rep,n.chg,n.oa,λi hi=>n.io i (g i hi)⟩
theorem Uf {D:Ends} {j:Option Nat} {hit:Str->Option Addr} (g:∀ i∈C.io,i∈own) (r:Rep C.K own F H σ ρ) (h:PoS C own own' σ F H (xQ n j hit fb fs ρ) D):tSt (qbh C own (qbi C own σ F H (fb ρ))) own own' fb D σ H:=by
 refine ⟨F,ρ,r,?_⟩;unfold xQ at h;cases q:fb ρ with
 | ok p=>
  rw [q] at h;obtain ⟨l,ρ'⟩:=p;cases l with
  | nx=>exact λσ' F' H' a=>h σ' F' H' (a.untry g)
  | rt d=>exact λv σ' F' H' s io c e mo=>h v σ' F' H' s (λi hi=>io i (g i hi)) c (λi hi=>e i (g i hi)) mo
  | bk=>exact λσ' F' H' a=>h σ' F' H' (a.untry g)
  | ct=>exact λσ' F' H' a=>h σ' F' H' (a.untry g)
 | exc c ρe=>exact λF' H' s io ch=>⟨c,ρe,F',rfl,rfl,s,io,ch⟩
 | bad=>rw [q] at h; exact h.elim
theorem Vd {A e:Hp} {Cc:Addr} {D:Ends} {d:D2.D} {v:V} {w:St} (g:∀ i∈C.io,i∈own) (h:PoS C own own' σ F H (.ok (.rt d,ρe)) D) (n:H1 ex=d6) (j:Same F1 H1) (io:JK C.K own F1 H1 σ ρe) (ch:Chg (OA own σ) F H F1 H1)
  (s3:Same A e) (J:Chg (OA [] w) (upd F1 ex (gl ex Cc)) (upd H1 ex (gl ex Cc)) A e) (mo:MoIs C.K C.mr (upd H1 ex (gl ex Cc)) A e v d):D.rt v e:=by
 obtain ⟨s,c2⟩:=vS (u:=gl ex Cc) j n;have no:∀ {b},OA [] w b->False:=λ⟨i,hi,_⟩=>by simp at hi
 have f:Chg No (upd F1 ex (gl ex Cc)) (upd H1 ex (gl ex Cc)) A e:=J.mono λx z=>no z;have c:Chg No F1 H1 A e:=c2.trans f λ_ z=>z.elim;refine h v σ A e s3 (λi hi=>?_) (ch.trans c λ_ z=>z.elim) (λ_ _=>rfl) (MoIs.back (Ha:=e) (ch.trans c2 λ_ z=>z.elim) mo);obtain ⟨d',a,e1,k,E,p⟩:=io i (g i hi);refine ⟨d',a,e1,k,?_,p.grow c.grow λo q=>c.keep a o q λz=>z⟩;cases q:A a with
 | none=>rfl
 | some u=>
  rcases c.new a (by rw [q]; simp) with z | z | z;·exact absurd E z
  ·exact absurd z p.there
  ·exact z.elim
theorem Xv {cn en:Str} {np L pos:Pos} {y b:List Stmt} {b0:Stmt} {cls:d5} {n j:Nat} {hit:Str->Option Addr} {own2:List Nat} (t:X.ex=[]) (k:X.stack=X.env::X.outer) (x:X.env.frame=d4 X.env.locals)
  (hg:Gl X cn) (hm:X.mg cn=d4 cls) (M:∀ c Cc,hit c=d4 Cc->C.cv c=.ref Cc/\ce X.K (.ref Cc) cls=d4 d8) (hN:X.N.Nodup) (hj:X.N[j]?=d4 en) (hx:X.env.scope.names.lookup en=d4 .local) (hn:X.N.length=n)
  (hb:∀ pn xe E,jr (CXk X.prog X.w) (gB X pn xe) E->PSs (gB X pn xe) y (tSt (qbh C own E) own own' fb)) (hs:∀ e,PSs (qaA X e) (b0::b) (tSt (exC C) [] own2 fs)) (o:∀ i∈C.io,i∈own:=by exact jm rfl) (hd:Dbg cn:=by decide) :
  PS X (.Try y [.ExceptHandler (d4 (.Name cn np)) (d4 en) (b0::b) L] [] [] pos) (tSt C own own' (xQ n (d4 j) hit fb fs)):=by
 refine ⟨?_⟩;intro pins s σ H D I ⟨F,ρ,rp,h⟩;have run:=hb (X.pn++pins) (qbj X pins (qbi C own σ F H (fb ρ))) (qbi C own σ F H (fb ρ)) (Jq t) [] s σ H D (Xr I) (Uf o rp h);refine wpAny_Try_except (fI run (λf s1 l=>?_) λe s1 he=>?_)
 ·cases f with
  | next=>obtain ⟨σ',H',A,q⟩:=l;exact JV pins s1 σ' H' D (kZ A) q
  | brk=>obtain ⟨σ',H',A,q⟩:=l; exact ⟨σ',H',kZ A,q⟩
  | cont=>obtain ⟨σ',H',A,q⟩:=l; exact ⟨σ',H',kZ A,q⟩
  | ret u=>obtain ⟨v,σ',H',A,r,q⟩:=l; exact ⟨v,σ',H',kZ A,r,q⟩
 ·obtain ⟨σ1,ex,T,Cc,H1,rfl,I1,c1,c,ρe,F1,hr,P,B,io1,ch1⟩:=he;refine Vc I1.ok.frames I1 k x t c1 λs2 T2 I2 c2=>?_;unfold xQ at h;rw [hr] at h;cases Z:hit c with
  | none=>simp only [Z] at h; exact h.elim
  | some Ch=>
   simp only [Z] at h;obtain ⟨hc1,hc2⟩:=M c Ch Z;rw [hc1] at P;obtain rfl:Cc=Ch:=by injection P
   refine wpAny_handleBy_cons (codeAny_handlers_test (wP (X:=qaA X (.ref ex)) (Yq I2) hg hm ?_ hd)) (by intro q; cases q);obtain ⟨oe,vs,oT,ts,a1,a2,a3,_⟩:=id c2.fly;have LT:PySem.W.Looks (model X.prog X.w) s2.heap (ig (.ref ex)) (.ref Cc):=by rw [<-a2]; exact (PySem.W.Looks.ld a1).andThen .now
   refine (PySem.W.exm_one I2.kIn LT hc2) _ _ _ _ (λ_ _ z=>z) ?_;refine codeAny_handlers_suite_as (gA I2 k x t c2 λs3 T3 I3 c3=>?_);have I4:=qbg I3 c3;refine yY I4 hN hj (.inl hx) (v:=.ref ex) rfl (λs5 I5=>?_) (.inr hx);have g:j < n:=by rw [<-hn]; exact (ak.mp hj).1
   have I6:Inv X pins ((aj n d6).set j (d4 (.ref ex))) (upd H1 ex (gl ex Cc)) s5:=I5.weak (by simp [I3.len,hn]) λi v e=>by
    by_cases G:i=j;·subst G;rw [ap (by simpa using g)] at e;rw [ap (by rw [I3.len,hn]; exact g)];exact e
    ·rw [af (be G),bj] at e;split at e <;> cases e
   obtain ⟨R,cc2⟩:=vS (u:=gl ex Cc) B c1.hex;have U:Rep C.K [] (upd F1 ex (gl ex Cc)) (upd H1 ex (gl ex Cc)) ((aj n d6).set j (d4 (V.ref ex))) ((aj n d6).set j (d4 (.xcp Cc))):=by
    refine ⟨R,by simp,λi d hi e=>?_,λi d hi=>by simp at hi,λi hi=>by simp at hi,λi j a hi=>by simp at hi⟩;by_cases G:i=j;·subst G;rw [ap (by simpa using g)] at e;cases e;exact ⟨.ref ex,by rw [ap (by simpa using g)],.xcp ql⟩
    ·rw [af (be G),bj] at e;split at e <;> cases e
   have J:tSt (exC C) [] own2 fs { nx:=λ_ _=>False,rt:=D.rt } ((aj n d6).set j (d4 (V.ref ex))) (upd H1 ex (gl ex Cc)):=by
    refine ⟨_,_,U,?_⟩;cases Y:fs ((aj n d6).set j (d4 (.xcp Cc))) with
    | ok p=>
     obtain ⟨fl,ρ5⟩:=p;rw [Y] at h;cases fl with
     | rt d=>exact λv σ' F3 H3 s3 io c3 e mo=>Vd (own':=own') (D:=D) (ex:=ex) (Cc:=Cc) o h c1.hex B io1 ch1 s3 c3 mo
     | nx=>exact h.elim
     | bk=>exact h.elim
     | ct=>exact h.elim
    | exc _ _=>rw [Y] at h; exact h.elim
    | bad=>rw [Y] at h; exact h.elim
   refine fI (hs (.ref ex) pins s5 _ _ _ (Yq I6) J) (λf s7 l=>?_) λ_ _ z=>z.elim;cases f with
   | next=>obtain ⟨_,_,_,q⟩:=l; exact q.elim
   | brk=>obtain ⟨_,_,_,q⟩:=l; exact q.elim
   | cont=>obtain ⟨_,_,_,q⟩:=l; exact q.elim
   | ret u=>obtain ⟨v,Q,H7,I7,r7,q7⟩:=l;have O:Inv X pins Q H7 s7:=Xu I.ok I7;obtain ⟨m,hns,_⟩:=id O.loc;refine wpAny_nameGoes hx hns (by rw [I.ok.kind]; rfl) λh' m' hn' S=>?_;exact ⟨v,_,H7,Jp O k x hn' S,r7,q7⟩
end
structure RoomQ (k:Nat) (A:eZ):Prop where
 dp:A.depth+3 * k+5 < f9
 un:A.units+16 * k+200 < fz
theorem RoomQ.deeper {k:Nat} (r:RoomQ (k+1) A) (env:Env):RoomQ k (A.deeper env):=
 ⟨by have:=r.dp; show A.depth+1+3 * k+5 < _; lia,by have:=r.un; show A.units+3+16 * k+200 < _; lia⟩
theorem RoomQ.depth {k:Nat} (r:RoomQ k A):A.depth < f9:=by have:=r.dp; lia
theorem RoomQ.units {k:Nat} (r:RoomQ k A):A.units+64 < fz:=by have:=r.un; lia
theorem _root_.L2.Room.quiet {k:Nat} (r:Room k A):RoomQ k A:=⟨r.dp,r.un⟩
theorem RoomQ.mark {k:Nat} (r:RoomQ k A) (e:Option d5):RoomQ k (A.mark e):=⟨r.dp,r.un⟩
structure FnQ (P:eH) (w:eI) (K:Frag) (mg:Str->Option d5) (base:Heap) (CX:CXT) (k:Nat) (f:Addr) (fd:fA) (ps:List Str) (sp:Sp):Prop where
 len:∀ vs H Q E,sp vs H Q E->vs.length=ps.length
 run:∀ (A:eZ) (outer:List Env) (s:d9) (H:Hp) (args:Args) (us:List d5) (vs:List V) (Q:VK) (E:XK),RoomQ k A->Env0 P w K mg base A outer s H->ip s fd args (ps.zip us)->Vals vs us->sp vs H Q E ->fE (model P w) A (.call (.ref f) args) (CR CX outer P w H s Q E) s
def cxQ (CX:CXT) (P:eH) (w:eI) (K:Frag) (mg:Str->Option d5) (base:Heap) (N:List Str) (qual:Str) (scope:fN) (f:Addr) (cd:d5) (A:eZ) (outer:List Env) (s:d9) (H:Hp) (E:XK):Cx where
 prog:=P
 w:=w
 K:=K
 mg:=mg
 base:=base
 A:=A.deeper (fw qual scope s.heap.objs.size f cd)
 N:=N
 s₀:=s
 H₀:=H
 env:=fw qual scope s.heap.objs.size f cd
 outer:=outer
 stack:=fw qual scope s.heap.objs.size f cd::outer
 ex:=[]
 calm:=d7
 fn:=λ_=>d8
 pn:=[]
 xe:=λe s'=>ez (model P w) (A.deeper (fw qual scope s.heap.objs.size f cd)) (leaving (fw qual scope s.heap.objs.size f cd) e) (λ_ a=>CX outer H s E e a) (λb a=>CX outer H s E b a) s'
theorem Jr {CX:CXT} {P:eH} {w:eI} {K:Frag} {mg:Str->Option d5} {base:Heap} {N ps:List Str} {qual:Str} {scope:fN} {f:Addr} {cd:d5} {A:eZ} {outer:List Env} {s s1:d9} {H:Hp} {E:XK} {us:List d5} {vs:List V}
  (S:FnScope N ps scope) (e0:Env0 P w K mg base A outer s H) (hl:vs.length=ps.length) (r:Vals vs us)
  (x:InCallC s s.heap.objs.size (bindL (fw qual scope s.heap.objs.size f cd).kindOf (ps.zip us) λ_=>d6) (iq (s.heap.objs.size+1) scope.names []) (bindC (fw qual scope s.heap.objs.size f cd).kindOf (ps.zip us) λ_=>d6) s1) :
  Inv (cxQ CX P w K mg base N qual scope f cd A outer s H E) [] (kh N vs) H s1:=by
 have o:ps.length<=N.length:=by have:=congrArg List.length S.pre; rw [cf] at this; lia
 obtain ⟨h1,tk,rfl,l⟩:=x.done;have d:∀ b:Addr,b∉(cxQ CX P w K mg base N qual scope f cd A outer s H E).ex:=λb z=>absurd (show b∈([]:List Addr) from z) (by simp);refine ⟨⟨e0.mod,S.kind,rfl,rfl,ao _,λy z c h1 h2=>?_,λy D=>?_,λy c _ h=>?_,λz=>absurd z (by show ¬(d7=d8); exact bq),Around.frames_deeper e0.frames,.inr ⟨rfl,rfl⟩,λb z=>absurd z (d b),e0.bs,e0.bsz,λb _ _=>d b,λb z=>absurd z (d b),e0.funs,e0.frf⟩,rfl,e0.bare,Un.kept l,⟨_,x.toInCall.ns,λi y v h1 h2 B=>?_⟩,λy c h=>⟨_,x.cell y c h⟩,e0.hok.fresh (ao _),λy c h=>?_,λp hp=>absurd (show p∈([]:Pns) from hp) (by simp),e0.hok.kept l,?_⟩;·exact name_of_addr x.apart (aO h1) (aO h2)
 ·have D:scope.names.lookup y=d4 .cell\/scope.names.lookup y=d4 .free:=D;rcases D with D | D;·exact uB D
  ·exact absurd rfl (S.nofree _ (aO D))
 ·exact cY (x.above y c (aO h))
 ·have hi:i < vs.length:=by
   unfold kh at h2;by_cases hi:i < vs.length;·exact hi
   ·rw [bn (by simpa using hi)] at h2;rw [bj] at h2;split at h2 <;> cases h2
  have t:vs[i]?=d4 v:=by
   unfold kh at h2;rw [bD (by simpa using hi),aM] at h2;cases e:vs[i]? with
   | none=>rw [e] at h2; cases h2
   | some a=>rw [e] at h2; cases h2; rfl
  obtain ⟨u,j,m⟩:=r.get t;have hp:ps[i]?=d4 y:=by rw [<-S.pre,List.getElem?_take_of_lt (by lia)]; exact h1
  have g:ps.Nodup:=by rw [<-S.pre]; exact S.nd.sublist (List.take_sublist _ _)
  refine ⟨u,m,?_⟩;rcases S.par y (bZ hp) with k | k;·exact .inl ⟨k,uM g hp j k⟩
  ·obtain ⟨c,e⟩:=uB (n:=s.heap.objs.size+1) k;refine .inr ⟨.inl k,c,e,?_⟩;have q:=x.cell y c e;rw [uN g hp j (by show scope.names.lookup y≠_; rw [k]; decide)] at q;exact q
 ·exact e0.hok.fresh (cY (x.above y c (aO h)))
 ·unfold kh;show _=N.length;rw [ai,ay,bT]
  lia
theorem Gy {CX:CXT} {P:eH} {w:eI} {K:Frag} {mg:Str->Option d5} {base:Heap} {k:Nat} {f:Addr} {name qual:Str} {params:Arguments} {a:List Stmt} {scope:fN} {m kV doc pm cdv ct oc:d5} {an od:Option Addr}
  {osl:Array (Option d5)} {N ps:List Str} {sp:Sp} (z:K.lookup f=d4 ⟨oc,od,.func (bf name qual params a scope m kV doc pm an cdv ct),osl⟩) (i:iB K cdv qual=d8) (S:FnScope N ps scope)
  (len:∀ vs H Q E,sp vs H Q E->vs.length=ps.length)
  (c:∀ (A:eZ) (outer:List Env) (s:d9) (H:Hp) (vs:List V) (Q:VK) (E:XK),RoomQ k (A.deeper (fw qual scope s.heap.objs.size f cdv))->sp vs H Q E ->∃ t,PSs (cxQ CX P w K mg base N qual scope f cdv A outer s H E) a t/\t { nx:=λ_ H'=>Q .non H',rt:=Q } (kh N vs) H) :
  FnQ P w K mg base CX (k+1) f (bf name qual params a scope m kV doc pm an cdv ct) ps sp:=by
 refine ⟨len,λA outer s H args us vs Q E j e0 G r p=>?_⟩;have hl:=len _ _ _ _ p;have X:K.In s.heap:=e0.mod.kin.keeps λb o e=>(e0.bs b o e).1;have l:s.heap.NoLimit:=e0.mod.nolimit.keeps λb o e=>(e0.bs b o e).1;have h:∀ y∈ps.zip us,scope.names.lookup y.1=d4 .local\/(scope.names.lookup y.1=d4 .cell/\((iq (s.heap.objs.size+1) scope.names []).lookup y.1).isSome=d8):=λ⟨n,v⟩ D=>by
  rcases S.par n (cU D).1 with q | q;·exact .inl q
  ·exact .inr ⟨q,cB _ _ _ (.inl q)⟩
 refine codeAny_call_function j.depth (X _ _ z) rfl S.co S.gen rfl (PySem.W.codeRec_of X i) (G _ _ _ _ ?_);refine wpAny_newFunctionEnv_cells S.kind h λenv C s1 x=>?_;subst C;refine ⟨l.keeps x.toInCall.keep,codeAny_func ?_⟩;obtain ⟨t,B,hq⟩:=c A outer s H vs Q E (j.deeper _) p;have I:Inv (cxQ CX P w K mg base N qual scope f cdv A outer s H E) [] (kh N vs) H s1:=Jr S e0 hl r x;refine fI (B [] s1 (kh N vs) H _ I hq) (λL s' d=>?_) λe s' d=>d;have fin:∀ {σ':St} {H':Hp} {v:V} {u:d5},Inv (cxQ CX P w K mg base N qual scope f cdv A outer s H E) [] σ' H' s'->RelV v u->Q v H'->CE outer P w H s Q u s':=
  λ{σ' H' v u} J g q=>⟨v,H',J.os,J.bare,J.base,J.hok,g,q⟩
 cases L with
 | ret u=>obtain ⟨v,σ',H',J,g,q⟩:=d;exact fin J g q
 | next=>obtain ⟨σ',H',J,q⟩:=d;exact fin (v:=V.non) (u:=c6) J rfl q
 | brk=>obtain ⟨_,_,_,q⟩:=d;exact ba q
 | cont=>obtain ⟨_,_,_,q⟩:=d;exact ba q
theorem qbk {P:eH} {w:eI} {K:Frag} {mg:Str->Option d5} {base:Heap} {CX:CXT} {x qual:Str} {st:Stmt} {f:Addr} {fd:fA} {N ps:List Str} {k:Nat} {cv:Str->d5} {ms:List PM} {mr:Mo} {own':List Nat} {fb:qP} {G:je}
  (F:Fun K x qual st f fd) (S:FnScope N ps (qv st)) (hl:ms.length=ps.length) (g:∀ i∈xO 0 ms,i∈own') (r:mr=.sh\/∀ ds ρ,(fb (qf N ds))≠.ok (.nx,ρ))
  (c:∀ (cdv:d5) (A:eZ) (outer:List Env) (s:d9) (H:Hp) (E:XK),RoomQ k (A.deeper (fw qual (qv st) s.heap.objs.size f cdv)) ->PSs (cxQ CX P w K mg base N qual (qv st) f cdv A outer s H E) (jb st) (tSt (WZ K cv E ms mr) (jf 0 ms) own' fb))
  (j:∀ ds,Out.le (G ds) (jA N ms fb ds)):FnQ P w K mg base CX (k+1) f fd ps (spD K cv ms mr G):=by
 obtain ⟨oc,od,kV,doc,pm,an,cdv,ct,osl,rfl,l,d⟩:=F.ex;refine Gy l d S (λvs H Q E h=>?_) λA outer s H vs Q E e p=>?_;·obtain ⟨F,ds,_,a,_⟩:=h;rw [a.length.1,hl]
 ·obtain ⟨F1,ds,b,a,nd,h⟩:=p;refine ⟨_,c cdv A outer s H E e,?_⟩;exact KQ (C:=WZ K cv E ms mr) rfl rfl (r.imp id λz ρ=>z ds ρ) g b a nd (j ds) h
section
variable {G:je} {fr:kP}
theorem Xw {k:Nat} {sp:Sp} {E:XK} {pins:Pns} {σ:St} {H:Hp} {s:d9} {Q:VK} {us:List d5} {vs:List V} (F:FnQ X.prog X.w X.K X.mg X.base CX k f fd ps sp) (a:RoomQ k X.A) (d:Binds X.K fd ps []) (hx:jr CX X E)
  (I:Inv X pins σ H s) (r:Vals vs us) (h:sp (vs++[]) H Q E):ez (model X.prog X.w) X.A (call (.ref f) us) (EP X pins σ Q) X.xe s:=by
 have r2:Vals (vs++[]) (us++[]):=r.append .nil;have hl:(us++[]).length=ps.length:=by rw [<-r2.length]; exact F.len _ _ _ _ h
 refine iA (fM (F.run X.A X.stack s H ⟨us,[]⟩ (us++[]) (vs++[]) Q E a I.env0 (d s us I.kIn hl) r2 h) λr s' hq=>?_);cases r with
 | error e=>exact hx pins σ H s e s' I hq
 | ok l=>
  cases l with
  | ret u=>exact I.after hq
  | next=>exact ba hq
  | brk=>exact ba hq
  | cont=>exact ba hq
theorem Ug {k:Nat} {p pos:Pos} (F:FnQ X.prog X.w X.K X.mg X.base CX k f fd ps (spD C.K C.cv ms mr G)) (g:RoomQ k X.A) (hg:Gl X x) (m:X.mg x=d4 (.ref f)) (j:fU X.K (.ref f)=d8) (u:Binds X.K fd ps []) (hx:jr CX X C.E)
  (v:PA X (e::es) (tAr C own as fr)) (a:ms=as.map wO:=by rfl) (c:∀ i∈qC as,i∈own:=by decide) (nd:(qC as).Nodup:=by decide) (n:frA as<=1:=by decide) (o:∀ i∈C.ox,i∈own:=by exact jm rfl) (b:Dbg x:=by decide) (t:eh (e::es) X.env=(d7,eval e X.env)::eh es X.env:=by exact qK rfl)
  (l:(e9 pos (eh es X.env)).any (·.1)=false:=by exact jY rfl):PE X (.Call (.Name x p) (e::es) [] pos) (tE C own mr (qw as G fr)):=by
 subst a;refine ⟨?_⟩;intro pins s σ H Q I h;refine fF (wP I hg m ?_ b);refine cu (h₀:=X.base) I.ok.mod.kin j (thn (v pos pins s σ H _ I (gu o c nd n h)) λus s1 ⟨vs,H1,d,r,q⟩=>⟨d.kIn,?_⟩) t l;exact Xw F g u hx d r q
end
def DefOk (P:eH) (w:eI) (K:Frag) (mg:Str->Option d5) (base:Heap) (cv:Str->d5) (k:Nat) (x:Str) (ps:List Str) (ms:List PM) (mr:Mo) (G:je):Prop:=
 ∃ f fd,FnOk P w K mg base (CXk P w) k f fd ps (spD K cv ms mr G)/\mg x=d4 (.ref f)/\fU K (.ref f)=d8/\Binds K fd ps []
def qbl (P:eH) (w:eI) (K:Frag) (mg:Str->Option d5) (base:Heap) (cv:Str->d5) (k:Nat) (x:Str) (ps:List Str) (ms:List PM) (mr:Mo) (G:je):Prop:=
 ∃ f fd,FnQ P w K mg base (CXk P w) k f fd ps (spD K cv ms mr G)/\mg x=d4 (.ref f)/\fU K (.ref f)=d8/\Binds K fd ps []
def kl (K:Frag) (mg:Str->Option d5) (x:Str) (st:Stmt) (ps:List Str):Prop:=∃ f fd,Fun K x x st f fd/\mg x=d4 (.ref f)/\Binds K fd ps []
theorem Gz {P:eH} {w:eI} {base:Heap} {cv:Str->d5} {k:Nat} {ms:List PM} {mr:Mo} {own':List Nat} {fb:qP} (T:kl K mg x st ps) (S:FnScope N ps (qv st))
  (c:∀ (cdv:d5) (f:Addr) (A:eZ) (outer:List Env) (s:d9) (H:Hp) (E:XK),Room k (A.deeper (fw x (qv st) s.heap.objs.size f cdv)) ->PSs (cxk P w K mg base N x (qv st) f cdv A outer s H E) (jb st) (tSt (WZ K cv E ms mr) (jf 0 ms) own' fb))
  (hl:ms.length=ps.length:=by rfl) (g:∀ i∈xO 0 ms,i∈own':=by exact jm rfl) (r:mr=.sh\/∀ ds ρ,(fb (qf N ds))≠.ok (.nx,ρ):=by exact .inl rfl):DefOk P w K mg base cv (k+1) x ps ms mr (jA N ms fb):=by
 obtain ⟨f,fd,F,m,d⟩:=T;exact ⟨f,fd,qaz F S hl g r (λcdv A outer s H E h=>c cdv f A outer s H E h) λ_=>.inr rfl,m,F.kp,d⟩
theorem qbm {P:eH} {w:eI} {base:Heap} {cv:Str->d5} {k:Nat} {ms:List PM} {mr:Mo} {own':List Nat} {fb:qP} (T:kl K mg x st ps) (S:FnScope N ps (qv st))
  (c:∀ (cdv:d5) (f:Addr) (A:eZ) (outer:List Env) (s:d9) (H:Hp) (E:XK),RoomQ k (A.deeper (fw x (qv st) s.heap.objs.size f cdv)) ->PSs (cxQ (CXk P w) P w K mg base N x (qv st) f cdv A outer s H E) (jb st) (tSt (WZ K cv E ms mr) (jf 0 ms) own' fb))
  (hl:ms.length=ps.length:=by rfl) (g:∀ i∈xO 0 ms,i∈own':=by exact jm rfl) (r:mr=.sh\/∀ ds ρ,(fb (qf N ds))≠.ok (.nx,ρ):=by exact .inl rfl):qbl P w K mg base cv (k+1) x ps ms mr (jA N ms fb):=by
 obtain ⟨f,fd,F,m,d⟩:=T;exact ⟨f,fd,qbk F S hl g r (λcdv A outer s H E h=>c cdv f A outer s H E h) λ_=>.inr rfl,m,F.kp,d⟩
variable {cv:Str->d5}
theorem DefOk.mono {j k:Nat} {G:je} (h:DefOk P w K mg base cv j x ps ms mr G) (a:j<=k):DefOk P w K mg base cv k x ps ms mr G:=by obtain ⟨f,fd,F,r⟩:=h;exact ⟨f,fd,F.mono a,r⟩
section
variable {G:je} {fr:kP} {p:Pos} {k j:Nat}
theorem qZ (F:DefOk X.prog X.w X.K X.mg X.base cv j x ps ms mr G) (h:Room k X.A) (d:j<=k) (hx:jr (CXk X.prog X.w) X C.E) (hg:Gl X x) (t:PA X (e::es) (tAr C own as fr)) (v:C.cv=cv:=by rfl) (n:C.K=X.K:=by rfl) (s:ms=as.map wO:=by rfl) (c:∀ i∈qC as,i∈own:=by decide) (nd:(qC as).Nodup:=by decide) (g:frA as<=1:=by decide) (o:∀ i∈C.ox,i∈own:=by exact jm rfl)
  (b:Dbg x:=by decide) (q:eh (e::es) X.env=(d7,eval e X.env)::eh es X.env:=by exact qK rfl) (l:(e9 pos (eh es X.env)).any (·.1)=false:=by exact jY rfl):PE X (.Call (.Name x p) (e::es) [] pos) (tE C own mr (qw as G fr)):=by
 subst v;obtain ⟨f,fd,F,m,a,r⟩:=F;rw [<-n] at F;exact Xl (by rw [<-n]; exact F) (h.mono d) hg m a r hx t s c nd g o b q l
theorem Ve (F:qbl X.prog X.w X.K X.mg X.base cv j x ps ms mr G) (h:RoomQ j X.A) (hx:jr (CXk X.prog X.w) X C.E) (hg:Gl X x) (q:PA X (e::es) (tAr C own as fr)) (v:C.cv=cv:=by rfl) (n:C.K=X.K:=by rfl) (s:ms=as.map wO:=by rfl) (c:∀ i∈qC as,i∈own:=by decide) (nd:(qC as).Nodup:=by decide) (a:frA as<=1:=by decide) (o:∀ i∈C.ox,i∈own:=by exact jm rfl)
  (b:Dbg x:=by decide) (d:eh (e::es) X.env=(d7,eval e X.env)::eh es X.env:=by exact qK rfl) (l:(e9 pos (eh es X.env)).any (·.1)=false:=by exact jY rfl):PE X (.Call (.Name x p) (e::es) [] pos) (tE C own mr (qw as G fr)):=by
 subst v;obtain ⟨f,fd,F,m,k,g⟩:=F;rw [<-n] at F;exact Ug (by rw [<-n]; exact F) h hg m k g hx q s c nd a o b d l
noncomputable def Xx:D->Out D
 | .int i=>.ok (.int (-i))
 | _=>.bad
theorem zo:UnD X C .sh (unaryOp .USub) Xx:=by
 intro pins s σ H x v Q I d h;obtain ⟨F,dx,A,t,po⟩:=h;cases dx <;> try exact po.elim
 obtain rfl:=t.int;exact ZU pins s σ H _ v Q I d ⟨_,rfl,po _ F H A .refl (.int _)⟩
end
noncomputable def yx:Option (Option D)->Bool
 | some (d4 (.lst _))=>d8
 | _=>d7
noncomputable def Vf (i:Nat) (g:List D->D->Out (List D)) (fe:qM):qM:=λρ=>if yx ρ[i]?=d8 then (fe ρ).bind λp=>match p.2[i]? with
 | some (d4 (.lst xs))=>match g xs p.1 with
  | .ok ys=>.ok (.non,p.2.set i (d4 (.lst ys)))
  | _=>.bad
 | _=>.bad
 else .bad
noncomputable def Vg (xs:List D) (d:D):Out (List D):=if xs.length < sizeLine then .ok (xs++[d]) else .bad
noncomputable def qaB (xs:List D):D->Out (List D)
 | .lst ys=>if xs.length+ys.length<=sizeLine then .ok (xs++ys) else .bad
 | .tup ys=>if xs.length+ys.length<=sizeLine then .ok (xs++ys) else .bad
 | _=>.bad
section
variable {fe:qM}
theorem Rep.write (r:Rep K own F H σ ρ) (hi:i∈own) (g:σ[i]?=d4 (d4 (V.ref a))) (ow:OwnIs K F (upd H a u) a d):Rep K own F (upd H a u) σ (ρ.set i (d4 d))/\Chg (OA own σ) F H F (upd H a u):=by
 obtain ⟨f,h⟩:=r.opn i hi;obtain ⟨l,e1,E,k⟩:=r.ow i f hi h;rw [g] at e1; cases e1;have hl:i < ρ.length:=(ak.mp h).1;refine ⟨⟨λb o e=>by rw [qu (qx e E)]; exact r.sub b o e,by simp [r.len],λj d' G e=>?_,λj d' G e=>?_,λj G=>?_,r.dis⟩,⟨λb o e n=>?_,λb e=>?_,Same.refl _,λb e=>.inl e⟩⟩;·rw [af (λz=>G (by rw [<-z]; exact hi))] at e;exact r.val j d' G e
 ·by_cases q:j=i;·subst q;rw [ap hl] at e;cases e;exact ⟨a,g,E,ow⟩
  ·rw [af (be q)] at e;obtain ⟨b,h1,h2,c⟩:=r.ow j d' G e;have A:b≠a:=λz=>by subst z; exact q (r.dis j i b G hi h1 g)
   exact ⟨b,h1,h2,c.grow (Same.refl _) λo z=>by rw [qu A]; exact z⟩
 ·by_cases q:j=i;·subst q; exact ⟨d,ap hl⟩
  ·rw [af (be q)]; exact r.opn j G
 ·have A:b≠a:=λz=>n (by rw [z]; exact ⟨i,hi,g⟩);rw [qu A]; exact e
 ·by_cases q:b=a;·rw [q,ql]; simp
  ·rw [qu q]; exact e
theorem Qu {o:Option (Option D)} (h:yx o=d8):∃ xs,o=d4 (d4 (.lst xs)):=by
 unfold yx at h;split at h;·exact ⟨_,rfl⟩
 ·cases h
theorem Uh {g:List D->D->Out (List D)} {R:V->V->Hp->VK->Prop} {σ:St} {H:Hp} {Q:VK} (s:i∈own) (t:m≠.any)
  (j:∀ (a:Addr) (xs:List V) (ds ys:List D) (v:V) (d:D) (F H:Hp),Same F H->H a=d4 (.lst xs)->F a=d6->IsL C.K F xs ds->Is C.K F v d->g ds d=.ok ys->(∀ zs,IsL C.K F zs ys->Q .non (upd H a (.lst zs)))->R (.ref a) v H Q)
  (h:tE C own .sh (Vf i g fe) σ H Q):∃ a xs,σ[i]?=d4 (d4 (V.ref a))/\H a=d4 (.lst xs)/\tE C own .sh fe σ H λv H1=>R (.ref a) v H1 Q:=by
 obtain ⟨F,ρ,p,h⟩:=h;unfold Vf at h;by_cases q:yx ρ[i]?=d8
 ·rw [Aa q] at h;obtain ⟨ds,hd⟩:=Qu q;obtain ⟨a,h1,h2,xs,k,w⟩:=p.ow i _ s hd;refine ⟨a,xs,h1,k,F,ρ,p,Po.bind h λv F1 H1 d ρ1 r x f po=>?_⟩;cases e:ρ1[i]? with
  | none=>simp only [e] at po; exact po.elim
  | some o=>
   cases o with
   | none=>simp only [e] at po; exact po.elim
   | some dd=>
    simp only [e] at po;cases dd with
    | lst es=>
     simp only at po;cases b:g es d with
     | ok ys=>simp only [b] at po;obtain ⟨y,e1,n,vs,E,l⟩:=r.ow i _ s e;rw [h1] at e1; cases e1;refine j a vs es ys v d F1 H1 r.sub E n l f b λzs z=>?_;obtain ⟨r2,c2⟩:=r.write (u:=.lst zs) (d:=.lst ys) s h1 ⟨zs,ql,z⟩;exact po .non F1 _ r2 c2 .non
     | exc c o=>simp only [b] at po; exact po.elim
     | bad=>simp only [b] at po; exact po.elim
    | _=>exact po.elim
 ·rw [Ab q] at h; exact h.elim
theorem uV {px apos cpos:Pos} (u:C.K=X.K) (r:X.N[i]?=d4 x) (n:Vis X.env.scope x) (o:i∈own) (p:PE X e (tE C own m fe)) (j:m≠.any:=by decide)
  (hd:Dbg x:=by decide) (f:Cdk x:=by decide)
  (c:fg (.Name x px) "append" X.env (eval (.Name x px) X.env)=eval (.Name x px) X.env:=by rfl)
  (w:((e9 cpos (eh [e] X.env)).all (λx=>!x.1)&&(fJ cpos (fh [] X.env)).all (λx=>x.1.isSome)
   && decide ([e].length+([]:List fB).length+(if ([]:List fB).isEmpty then 0 else 1) < 30))=true:=by exact wf rfl)
  (b:(apos.endLine == cpos.line)=true:=by rfl) (s:eh [e] X.env=[(d7,eval e X.env)]:=by exact qJ rfl) :
  PE X (.Call (.Attribute (.Name x px) "append" apos) [e] [] cpos) (tE C own .sh (Vf i Vg fe)):=by
 refine jd (WI bQ PySem.F.slot_list_append PySem.F.type_list_append xX (xS r n hd f) (qF (uR p j) jw s) c w b s rfl) λσ H Q h=>?_;have q:∀ (a:Addr) (xs:List V) (ds ys:List D) (v:V) (d:D) (F H:Hp),Same F H->H a=d4 (.lst xs)->F a=d6->IsL C.K F xs ds->Is C.K F v d->Vg ds d=.ok ys->(∀ zs,IsL C.K F zs ys->Q .non (upd H a (.lst zs)))->gj (.ref a) [v] H Q:=λa xs ds ys v d F H A t y ix l g k=>by
  unfold Vg at g;split at g;·cases g;exact ⟨a,xs,v,rfl,rfl,t,by rw [ix.length]; assumption,k _ (ix.append (.cons l .nil))⟩
  ·cases g
 obtain ⟨a,xs,h1,h2,k⟩:=Uh (R:=λx v H Q=>gj x [v] H Q) o j q h;exact ⟨.ref a,h1,.inl ⟨rfl,xs,.inl (.inl h2)⟩,k⟩
theorem Vh {px apos cpos:Pos} (I:X.N[i]?=d4 x) (A:Vis X.env.scope x) (s:i∈own) (B:PE X e (tE C own .fr fe))
  (hd:Dbg x:=by decide) (j:Cdk x:=by decide)
  (f:fg (.Name x px) "extend" X.env (eval (.Name x px) X.env)=eval (.Name x px) X.env:=by rfl)
  (w:((e9 cpos (eh [e] X.env)).all (λx=>!x.1)&&(fJ cpos (fh [] X.env)).all (λx=>x.1.isSome)
   && decide ([e].length+([]:List fB).length+(if ([]:List fB).isEmpty then 0 else 1) < 30))=true:=by exact wf rfl)
  (c:(apos.endLine == cpos.line)=true:=by rfl) (n:eh [e] X.env=[(d7,eval e X.env)]:=by exact qJ rfl) :
  PE X (.Call (.Attribute (.Name x px) "extend" apos) [e] [] cpos) (tE C own .sh (Vf i qaB fe)):=by
 refine jd (WI bQ PySem.F.slot_list_extend PySem.F.type_list_extend Kk (xS I A hd j) (qF B jw n) f w c n rfl) λσ H Q ⟨F,ρ,p,h⟩=>?_;unfold Vf at h;by_cases q:yx ρ[i]?=d8
 ·rw [Aa q] at h;obtain ⟨ds,hd⟩:=Qu q;obtain ⟨a,h1,h2,xs,J,L⟩:=p.ow i _ s hd;refine ⟨.ref a,h1,.inl ⟨rfl,xs,.inl (.inl J)⟩,F,ρ,p,Po.bind h λv F1 H1 d ρ1 r O m po=>?_⟩;obtain ⟨b,rfl,G,E,k⟩:=m;cases g:ρ1[i]? with
  | none=>simp only [g] at po; exact po.elim
  | some o=>
   cases o with
   | none=>simp only [g] at po; exact po.elim
   | some dd=>
    simp only [g] at po;cases dd with
    | lst es=>
     simp only at po;obtain ⟨P,e1,M,vs,K,t⟩:=r.ow i _ s g;rw [h1] at e1; cases e1;cases d with
     | lst ys=>
      obtain ⟨zs,y,l⟩:=k;have po:Po C own .sh σ F1 H1 (match (if es.length+ys.length<=sizeLine then .ok (es++ys) else .bad:Out (List D)) with | .ok ys=>.ok (.non,ρ1.set i (d4 (.lst ys))) | _=>.bad) Q:=po;by_cases z:es.length+ys.length<=sizeLine;·rw [Aa z] at po;refine ⟨a,b,vs,zs,rfl,rfl,K,y,by rw [t.length,l.length]; exact z,?_⟩;obtain ⟨r2,c2⟩:=r.write (u:=.lst (vs++zs)) (d:=.lst (es++ys)) s h1 ⟨_,ql,t.append l⟩;exact po .non F1 _ r2 c2 .non
      ·rw [Ab z] at po; exact po.elim
     | dct ys=>exact po.elim
     | ins _ _=>exact po.elim
     | at_ _ _=>exact po.elim
     | _=>exact k.elim
    | _=>exact po.elim
 ·rw [Ab q] at h; exact h.elim
end
noncomputable def scB (names:List (Str×fC)) (scope:fN):Bool:=decide (scope.kind=.function)&&scope.names.all λy=>decide (y.2≠.cell)&&(!decide (y.2=.local)||decide (scope.names.lookup y.1=d4 .local)) &&
 (!decide (y.2=.free)||((decide (names.lookup y.1=d4 .cell)||decide (names.lookup y.1=d4 .free))&&decide (scope.names.lookup y.1=d4 .free)))
variable {names:List (Str×fC)}
theorem qbn (h:X.env.scope.names=names) (b:scB names scope=d8):ScOk X scope:=by
 subst h;unfold scB at b;rw [aA,aL] at b;obtain ⟨a,B⟩:=b;refine ⟨Ad a,λy D=>?_,λy D e=>?_,λy D e=>?_,λy D e=>?_⟩;all_goals
  have q:=B y D;simp only [aA,Bool.or_eq_true,dh,decide_eq_true_eq,decide_eq_false_iff_not] at q
 ·exact q.1.1
 ·exact q.1.2.resolve_left λz=>z e
 ·exact (q.2.resolve_left λz=>z e).1
 ·exact (q.2.resolve_left λz=>z e).2
noncomputable def qbo (names:List (Str×fC)) (N:List Str) (scope:fN) (c:List Str) (nt:Nat) (cap:List Nat):Bool:=decide cap.Nodup&&decide (c.length=nt+cap.length)&&(aZ cap.length).all λj=>match cap[j]? with
 | some k=>match c[nt+j]? with
  | some x=>decide (N[k]?=d4 x)&&(((decide (names.lookup x=d4 .local)||decide (names.lookup x=d4 .cell)||decide (names.lookup x=d4 .free))&&decide ((x,aV)∈scope.names))||scope.names.all λy=>decide (y.1≠x))
  | none=>d7
 | none=>d7
theorem GA {c:List Str} (a:X.env.scope.names=names) (d:X.N=N) (b:qbo names N scope c nt cap=d8):CapOk X scope c nt cap:=by
 subst a d;unfold qbo at b;rw [aA,aA,aL] at b;obtain ⟨⟨f,B⟩,A⟩:=b;refine ⟨Ad f,Ad B,λj k G=>?_⟩;have q:=A j (bY.mpr (ak.mp G).1);rw [G] at q;cases e:c[nt+j]? with
 | none=>simp only [e] at q; cases q
 | some x=>
  simp only [e,aA,Bool.or_eq_true,decide_eq_true_eq] at q;refine ⟨x,rfl,q.1,?_⟩;rcases q.2 with ⟨z,q2⟩ | z
  ·refine .inl ⟨?_,q2⟩;rcases z with (z | z) | z;·exact .inl z
   ·exact .inr (.inl z)
   ·exact .inr (.inr z)
  ·refine .inr λk' h=>?_;rw [aL] at z;exact Ad (z (x,k') h) rfl
theorem uW:jr (CXk P w) X (λ_ _ _=>False):=λ_ _ _ _ _ _ _ h=>by obtain ⟨_,_,_,_,_,_,_,_,_,_,_,_,_,_,k⟩:=h;exact k.elim
noncomputable def qbp (f:qM):qM:=λρ=>(jp f ρ).bind λp=>.ok (.bl (!p.1),p.2)
section
variable {i:Int}
theorem ww (h:∃ t,X.mg x=d4 (.int i t)) (hg:Gl X x) (hd:Dbg x:=by decide):PE X (.Name x pos) (tE C own .sh (dC (.int i))):=by obtain ⟨t,h⟩:=h;exact Kt (v:=.int i) hg h ⟨t,rfl⟩ (λ_=>.int i) hd
end
variable {us:List d5}
section
variable {a b:Expr} {f fa fb:qM}
noncomputable def Vi:D->Out D
 | .lst xs=>.ok (.tup xs)
 | .tup xs=>.ok (.tup xs)
 | _=>.bad
noncomputable def Ui:D->Out D
 | .lst xs=>.ok (.lst xs)
 | .tup xs=>.ok (.lst xs)
 | _=>.bad
theorem Uj (n:C.K=X.K):Jk X C .sh (.type "tuple") Vi:=by
 intro pins s σ H xs us Q I r h;obtain ⟨x,F,dx,rfl,A,a,po⟩:=h;cases dx with
 | lst ds=>obtain ⟨p,vs,rfl,hq,t⟩:=a.lst A;refine we pins s σ H _ us Q I r ⟨p,vs,rfl,.inl ⟨by rw [<-n]; exact hq,λl hl=>?_⟩⟩;obtain ⟨s2,c2⟩:=vS (u:=.tup vs) A hl;exact po _ _ _ s2 c2 (.tup (.inl (.inl ql)) (t.mono c2.grow))
 | tup ds=>
  rcases a with a | ⟨_,_,a⟩
  ·have b:=a;cases a with
   | tup hq t=>exact we pins s σ H _ us Q I r ⟨_,_,rfl,.inr ⟨by rw [<-n]; exact qO A hq,po _ F H A .refl b⟩⟩
  ·exact a.elim
 | _=>exact po.elim
theorem Xy (n:C.K=X.K):Jk X C .fr (.type "list") Ui:=by
 intro pins s σ H xs us Q I r h;obtain ⟨x,F,dx,rfl,A,a,po⟩:=h;cases dx with
 | lst ds=>obtain ⟨p,vs,rfl,hq,t⟩:=a.lst A;refine ue pins s σ H _ us Q I r ⟨p,vs,rfl,.inl (by rw [<-n]; exact hq),λl hl=>?_⟩;obtain ⟨s2,c2,E⟩:=wQ (u:=.lst vs) A hl;exact po _ _ _ s2 c2 ⟨l,rfl,hl,E,vs,ql,t⟩
 | tup ds=>obtain ⟨p,vs,rfl,hq,t⟩:=a.tup A;refine ue pins s σ H _ us Q I r ⟨p,vs,rfl,.inr (by rw [<-n]; exact hq),λl hl=>?_⟩;obtain ⟨s2,c2,E⟩:=wQ (u:=.lst vs) A hl;exact po _ _ _ s2 c2 ⟨l,rfl,hl,E,vs,ql,t⟩
 | _=>exact po.elim
def Vj (X:Cx) (C:Ct) (m:Mo) (f:d5) (g:D->D->Out D):Prop:=vG X f (λxs H Q=>∃ x y F dx d,xs=[x,y]/\Same F H/\TopIs C.K F H x dx/\TopIs C.K F H y d/\PoV C m F H (g dx d) Q)
theorem Uk {Q:VK} (l:ma≠.any) (h:tE C own m (d2 g fa fb) σ H Q):Je (tE C own ma fa) (Je (tE C own mb fb) ZY) σ H λxs H1=>∃ x y F dx a,xs=[x,y]/\Same F H1/\TopIs C.K F H1 x dx/\TopIs C.K F H1 y a/\PoV C m F H1 (g dx a) Q:=by
 obtain ⟨F,ρ,o,h⟩:=zb (mb:=mb) l h;refine ⟨F,ρ,o,?_⟩;cases q:fa ρ with
 | ok p=>
  rw [q] at h;obtain ⟨d,ρ1⟩:=p;intro v F1 H1 e s k;obtain ⟨u,j,b,h2⟩:=h v F1 H1 e s k;refine ⟨u,j,b,?_⟩;cases f:fb j with
  | ok p=>rw [f] at h2;obtain ⟨d',n⟩:=p;intro w A t r J i;obtain ⟨M,dx,a,z⟩:=h2 w A t r J i;exact ⟨v,w,M,dx,a,rfl,z⟩
  | exc c=>rw [f] at h2; exact h2
  | bad=>rw [f] at h2; exact h2.elim
 | exc c=>rw [q] at h; exact h
 | bad=>rw [q] at h; exact h.elim
theorem zp {id:String} {p:Pos} (e:Vj X C m (.builtin id) g) (hg:Gl X x) (d:X.mg x=d6) (v:eG x=d4 (.builtin id)) (j:PE X a (tE C own ma fa)) (i:PE X b (tE C own mb fb)) (f:ma≠.any:=by decide) (n:x ≠ "__name__":=by decide) (c:Dbg x:=by decide)
  (h1:eh [a,b] X.env=(d7,eval a X.env)::eh [b] X.env:=by rfl) (h2:eh [b] X.env=[(d7,eval b X.env)]:=by exact qJ rfl):PE X (.Call (.Name x p) [a,b] [] pos) (tE C own m (d2 g fa fb)):=
 jd (vw e hg d v (qF j (qF i jw h2) h1) n c (by rw [h1]) (by rw [h2]; rfl)) λ_ _ _ h=>Uk f h
noncomputable def qaC:D->D->Out D:=uS λi j=>.ok (.int (if j > i then j else i))
noncomputable def qaD:D->D->Out D:=uS λi j=>.ok (.int (if j < i then j else i))
theorem GB (d:X.calm=d8):Vj X C .sh (.builtin "max") qaC:=by
 intro pins s σ H xs us Q I r h;obtain ⟨x,y,F,dx,a,rfl,A,t,ty,po⟩:=h;cases dx <;> try exact po.elim
 cases a <;> try exact po.elim
 obtain rfl:=t.int;obtain rfl:=ty.int;exact Kc d pins s σ H _ us Q I r ⟨_,_,rfl,po _ F H A .refl (.int _)⟩
theorem GC (d:X.calm=d8):Vj X C .sh (.builtin "min") qaD:=by
 intro pins s σ H xs us Q I r h;obtain ⟨x,y,F,dx,a,rfl,A,t,ty,po⟩:=h;cases dx <;> try exact po.elim
 cases a <;> try exact po.elim
 obtain rfl:=t.int;obtain rfl:=ty.int;exact Ke d pins s σ H _ us Q I r ⟨_,_,rfl,po _ F H A .refl (.int _)⟩
noncomputable def jt (a T:String):Option Bool:=if (cF a == cF T)=d8 then d4 d8 else if PySem.W.kitMeta T=d8 then (fastBuiltinMro a).map (·.contains (.type T)) else d6
theorem Ul (K:Frag) (a T:String):bo K (.type a) (.type T)=jt a T:=rfl
noncomputable def tyN:D->Option String
 | .non=>d4 "NoneType"
 | .bl _=>d4 "bool"
 | .int _=>d4 "int"
 | .str _=>d4 "str"
 | .tup _=>d4 "tuple"
 | .lst _=>d4 "list"
 | .dct _=>d4 "dict"
 | _=>d6
noncomputable def ku (T:String) (d:D):Out D:=match tyN d with
 | some a=>match jt a T with
  | some b=>.ok (.bl b)
  | none=>.bad
 | none=>.bad
theorem Um (i:C.K=X.K):vG X (.builtin "isinstance") (λxs H Q=>∃ x F d,xs=[x,.ty T]/\Same F H/\TopIs C.K F H x d/\PoV C .sh F H (ku T d) Q):=by
 intro pins s σ H xs us Q I r h;obtain ⟨x,F,d,rfl,A,f,po⟩:=h;obtain ⟨u,c,rfl,B,j⟩:=WD r;cases j;cases q:tyN d with
 | none=>unfold ku at po; rw [q] at po; exact po.elim
 | some a=>
  cases g:jt a T with
  | none=>unfold ku at po; rw [q] at po; simp only [g] at po; exact po.elim
  | some b=>
   have po:PoV C .sh F H (.ok (.bl b)) Q:=by unfold ku at po; rw [q] at po; simp only [g] at po; exact po
   have fin:∀ tk,EP X pins σ Q (.bool b) { s with toks:=tk }:=λtk=>⟨.bl b,H,I.tok tk,rfl,po _ F H A .refl (.bl b)⟩
   have e:bo X.K (.type a) (.type T)=d4 b:=(Ul X.K a T).trans g;cases d with
   | non=>obtain rfl:=f.non; cases B; cases q; exact bE PySem.W.kitx_none I.kIn cG e (λz=>nomatch z) fin
   | bl y=>obtain rfl:=f.bl; cases B; cases q; exact bE PySem.W.kitx_bool I.kIn cG e (λz=>nomatch z) fin
   | int y=>obtain rfl:=f.int; obtain ⟨t,rfl⟩:=B; cases q; exact bE PySem.W.kitx_int I.kIn cG e (λz=>nomatch z) fin
   | str y=>obtain ⟨rfl,_⟩:=f.str; obtain ⟨t,rfl⟩:=B; cases q; exact bE PySem.W.kitx_str I.kIn cG e (λz=>nomatch z) fin
   | tup y=>obtain ⟨p,vs,rfl,hq,t⟩:=f.tup A;cases B; cases q;obtain ⟨its,_,⟨o,h1,h2,_⟩,_⟩:=I.tuple (show SqT X.K H p vs by rw [<-i]; exact hq);exact bE PySem.W.kitx_tuple I.kIn ⟨o,h1,h2⟩ e (λz=>nomatch z) fin
   | lst y=>obtain ⟨p,vs,rfl,hq,t⟩:=f.lst A;cases B; cases q;obtain ⟨its,_,⟨o,n,h1,h2,_⟩,_⟩:=I.list (show SqL X.K H p vs by rw [<-i]; exact hq);exact bE PySem.W.kitx_list I.kIn ⟨o,h1,h2⟩ e (λz=>nomatch z) fin
   | dct y=>
    obtain ⟨p,vs,rfl,hq,t⟩:=f.dct A;cases B; cases q;obtain ⟨_,_,ws,_,o,es,k,h1,h2,_⟩:=(show ObjOk X.prog X.w H s.heap p (.dK vs) from I.hok p _ hq)
    exact bE PySem.W.kitx_dict I.kIn ⟨o,h1,h2.1⟩ e (λz=>nomatch z) fin
   | _=>cases q
theorem wx {tn:Str} {p t:Pos} (o:C.K=X.K) (hg:Gl X "isinstance") (k:X.mg "isinstance"=d6) (i:eG "isinstance"=d4 (.builtin "isinstance")) (j:Gl X tn) (e:X.mg tn=d6) (b:eG tn=d4 (.type T)) (l:PE X a (tE C own ma fa)) (n:tn ≠ "__name__":=by decide) (f:Dbg tn:=by decide)
  (h1:eh [a,.Name tn t] X.env=(d7,eval a X.env)::eh [.Name tn t] X.env:=by rfl) (h2:eh [.Name tn t] X.env=[(d7,eval (.Name tn t) X.env)]:=by rfl):PE X (.Call (.Name "isinstance" p) [a,.Name tn t] [] pos) (tE C own .sh (d1 (ku T) fa)):=by
 refine jd (vw (Um (T:=T) o) hg k i (qF l (qF (JU (v:=.ty T) j e b rfl n f) jw h2) h1) (by decide) (by decide) (by rw [h1]) (by rw [h2]; rfl)) λσ H Q h=>?_;obtain ⟨F,ρ,g,h⟩:=gm (ma:=ma) h;refine ⟨F,ρ,g,?_⟩;cases q:fa ρ with
 | ok p=>rw [q] at h;obtain ⟨d,ρ1⟩:=p;intro v F1 H1 r s m;obtain ⟨u,dx,z⟩:=h v F1 H1 r s m;exact ⟨v,u,dx,rfl,z⟩
 | exc c=>rw [q] at h; exact h
 | bad=>rw [q] at h; exact h.elim
noncomputable def jZ:List D->Option (List Bool)
 | []=>d4 []
 | .bl b::ds=>(jZ ds).map (b::·)
 | _::_=>d6
noncomputable def JM:D->Out D
 | .lst ds=>match jZ ds with
  | some bs=>.ok (.bl (bs.all id))
  | none=>.bad
 | _=>.bad
theorem xj {bs:List Bool} (a:IsL K F vs ds) (l:Vals vs us) (e:jZ ds=d4 bs):us=bs.map aG:=by
 induction ds generalizing vs us bs with
 | nil=>cases a;cases l;cases e;rfl
 | cons d ds h=>
  cases a with
  | cons i a=>
   cases l with
   | cons r l=>
    cases d with
    | bl b=>obtain ⟨c,e1,rfl⟩:=aR.mp (show (jZ ds).map (b::·)=d4 bs from e);cases i;cases r;rw [h a l e1];rfl
    | _=>cases e
theorem yK (n:C.K=X.K) (j:X.calm=d8):Jk X C .sh (.builtin "all") JM:=by
 intro pins s σ H xs us Q I r h;obtain ⟨x,F,dx,rfl,d,f,po⟩:=h;cases dx <;> try exact po.elim
 rename_i ds;obtain ⟨p,vs,rfl,hq,t⟩:=f.lst d;obtain ⟨u,rfl,B⟩:=yZ r;cases B;unfold JM at po;cases q:jZ ds with
 | none=>simp only [q] at po; exact po.elim
 | some bs=>
  simp only [q] at po;obtain ⟨its,g,pl,z⟩:=I.list (show SqL X.K H p vs by rw [<-n]; exact hq);have J:=xj t g q;subst J;have hp:p < s.heap.objs.size:=let ⟨o,h1,_⟩:=pl.isList; am h1;refine call_all_walk (wpAny_pyIter_list pl.isList ?_);have W:Walks X.prog X.w X.A.in1 s.heap.objs.size [s.heap.objs.size,p] [s.heap.objs.size] (bs.map aG).toArray.size (λi v=>(bs.map aG).toArray[i]?=d4 v) (λi h=>h.IsListIter s.heap.objs.size p i/\h.IsList p (bs.map aG).toArray):=Walks.list (A:=X.A.in1) (show X.A.in1.handled=d6 from I.ok.hd j) s.heap.objs.size p (aE hp) _;have st:(s.heap.push { cls:=.type "list_iterator",data:=.fields #[.ref p,.int 0 0] }).IsListIter s.heap.objs.size p 0/\(s.heap.push { cls:=.type "list_iterator",data:=.fields #[.ref p,.int 0 0] }).IsList p (bs.map aG).toArray:=⟨⟨_,aq _ rfl,rfl,rfl⟩,let ⟨o,h1,h2⟩:=pl.isList; ⟨o,ae _ h1,h2⟩⟩
  refine ⟨_,_,_,_,_,_,λi=>(bs[i]?).getD d7,rfl,W,st,λi v s' l E m c=>?_,λh' tk kp=>?_⟩
  ·have m:(bs.map aG).toArray[i]?=d4 v:=m;rw [List.getElem?_toArray,aM] at m;cases G:bs[i]? with
   | none=>rw [G] at m; cases m
   | some b=>have a:l ((bs[i]?).getD d7) s':=c;rw [G] at m a;cases m;exact fk a
  ·have e:(aZ (bs.map aG).toArray.size).all (λi=>(bs[i]?).getD d7)=bs.all id:=by
    rw [ah,ay,Bool.eq_iff_iff,aL,aL];constructor;·intro h b k;obtain ⟨i,hi,e⟩:=cQ.mp k;have:=h i (bY.mpr hi);rw [aU hi,e] at this;exact this
    ·intro h i hi;have hi:=bY.mp hi;rw [aU hi];exact h _ (dr hi)
   rw [e];refine ⟨.bl (bs.all id),H,?_,rfl,po _ F H d .refl (.bl _)⟩;have k2:∀ b o,s.heap.get? b=d4 o->h'.get? b=d4 o:=λb o J=>kp b o (by simp; exact aE (am J)) (ae _ J);exact I.kept (t':=tk) k2
end
noncomputable def kx (idx:List Nat) (xs:List α):List α:=idx.filterMap λk=>xs[k]?
theorem IsL.pick (h:IsL K F vs ds):∀ (idx:List Nat),IsL K F (kx idx vs) (kx idx ds)
 | []=>.nil
 | k::idx=>by
  unfold kx;rw [aN,aN];cases e:vs[k]? with
  | none=>have j:ds[k]?=none:=bp.mpr (by rw [<-h.length]; exact bp.mp e);rw [j];exact IsL.pick h idx
  | some v=>obtain ⟨d,j,i⟩:=h.get e;rw [j];exact .cons i (IsL.pick h idx)
theorem uX (h:Vals vs us):∀ (idx:List Nat),Vals (kx idx vs) (kx idx us)
 | []=>.nil
 | k::idx=>by
  unfold kx;rw [aN,aN];cases e:vs[k]? with
  | none=>rw [h.none_of e]; exact uX h idx
  | some v=>obtain ⟨u,j,r⟩:=h.get e;rw [j];exact .cons r (uX h idx)
theorem Uo (xs:List α):kx (aZ xs.length) xs=xs:=by unfold kx;have:=PySem.W.krv_all xs.toArray;simpa using this
noncomputable def zq (n:Nat) (lo hi:Option Int) (st:Int):List Nat:=(aZ (ci (aQ lo hi st n).1 (aQ lo hi st n).2 st)).map λ(k:Nat)=>((aQ lo hi st n).1+(k:Int) * st).toNat
noncomputable def yL (x:Str) (lo hi:Option Int) (st:Int):Str:=if (st == 1&&(bW lo hi st x.length).length == x.length)=d8 then x else ⟨((bW lo hi st x.length).filterMap (x.cps[·]?)).toArray⟩
noncomputable def slD (lo hi st:Option Int):D->Out D
 | .tup xs=>if st.getD 1≠0/\(kx (zq xs.length lo hi (st.getD 1)) xs).length<=sizeLine then .ok (.tup (kx (zq xs.length lo hi (st.getD 1)) xs)) else .bad
 | .str x=>if st.getD 1≠0/\(yL x lo hi (st.getD 1)).length<=sizeLine then .ok (.str (yL x lo hi (st.getD 1))) else .bad
 | _=>.bad
def qbV (X:Cx) (r:V->Option Int->Option Int->Option Int->Hp->VK->Prop):Prop:=
 ∀ (pins:Pns) (s:d9) (σ:St) (H:Hp) (x:V) (v vl u k:d5) (lo hi st:Option Int) (sl:Addr) (Q:VK),Inv X pins σ H s->RelV x v->s.heap.IsSliceOf sl vl u k->g0 vl lo->g0 u hi->g0 k st->r x lo hi st H Q ->∃ T id,typeLookup (.type T) "__getitem__"=pure (d4 (.builtin id))/\s.TypeIs v T/\ez (model X.prog X.w) X.A (iD v (.ref sl)) (EP X pins σ Q) X.xe s
section
variable {prog:eH}
theorem yy {sl:Addr} {vl u k:d5} {lo hi st:Option Int} {n:Nat} {Q:Int×Int×Nat->d9->Prop} (d:s.heap.IsSliceOf sl vl u k) (pl:g0 vl lo) (p:g0 u hi) (c:g0 k st) (f:st.getD 1≠0)
  (h:Q ((aQ lo hi (st.getD 1) n).1,st.getD 1,ci (aQ lo hi (st.getD 1) n).1 (aQ lo hi (st.getD 1) n).2 (st.getD 1)) s):ez (model prog w) A (Builtin.Slice.sliceApplied (.ref sl) (pure (n:Int))) Q E s:=by
 obtain ⟨os,a,e,b⟩:=id d;unfold Builtin.Slice.sliceApplied Builtin.Slice.sliceFields;refine ej (ej (wpAny_field a b (x:=vl) rfl (ej (wpAny_field a b (x:=u) rfl (ej (wpAny_field a b (x:=k) rfl (et ?_)))))));refine ej (HT.slicePart_ c ?_);show ez _ _ (if (st.getD 1 == 0)=d8 then _ else _) _ _ s;rw [Ab (by simpa using f)];refine ej (HT.slicePart_ pl (ej (HT.slicePart_ p (ej (et ?_)))));exact et h
theorem uY {t sl:Addr} {items:Array d5} {vl u v:d5} {lo hi st:Option Int} {Q:d5->d9->Prop} (b:IsTup s.heap t items) (i:s.heap.IsSliceOf sl vl u v) (pl:g0 vl lo) (p:g0 u hi) (n:g0 v st) (y:st.getD 1≠0)
  (o:zq items.size lo hi (st.getD 1)=aZ items.size->Q (.ref t) s)
  (h:Q (.ref s.heap.objs.size) { s with heap:=s.heap.push { cls:=.type "tuple",data:=.seq (kx (zq items.size lo hi (st.getD 1)) items.toList).toArray } })
  (z:(kx (zq items.size lo hi (st.getD 1)) items.toList).length<=sizeLine):ez (model prog w) A (iD (.ref t) (.ref sl)) Q E s:=by
 obtain ⟨os,c,d,r⟩:=id i;have g:s.TypeIs (.ref sl) "slice":=⟨os,c,d⟩
 unfold iD;try with_reducible refine g8 ?_
 first | refine ej (et ?_) | skip
 refine ej (wpAny_sequenceKey b.typeIs (by decide) ?_);refine ej (wpAny_callSpecial?_slot (name:=aY "__getitem__") b.typeIs bJ
  (wpAny_call_entry bJ b.typeIs entry_tuple_getitem ?_ (args_tuple_getitem _ _)))
 show ez _ _ (Builtin.Tuple.tupleItemsOf (.ref t) >>= _) _ _ s;refine ej (tupleItemsOf_ b ?_);refine ej (wpAny_typeOf g ?_);rw [Aa (by decide)];refine ej (yy i pl p n y ?_);generalize hA:aQ lo hi (st.getD 1) items.size=A0;generalize N:ci A0.1 A0.2 (st.getD 1)=N0;have B:kx (zq items.size lo hi (st.getD 1)) items.toList=(aZ N0).filterMap λ(k:Nat)=>items[(A0.1+(k:Int) * st.getD 1).toNat]?:=by unfold kx zq;rw [hA,N,List.filterMap_map];congr 1;funext k;simp
 rw [B] at h z;by_cases f:(A0.1 == 0&&st.getD 1 == 1&&N0 == items.size)=d8
 ·have S:=f;rw [aA,aA] at S;have l:A0.1=0:=eq_of_beq S.1.1;have j:st.getD 1=1:=eq_of_beq S.1.2;have q:N0=items.size:=eq_of_beq S.2;have whole:zq items.size lo hi (st.getD 1)=aZ items.size:=by
   unfold zq;rw [hA,N,l,j,q];have e:(λ(k:Nat)=>((0:Int)+(k:Int) * 1).toNat)=id:=by
    funext k;show ((0:Int)+(k:Int) * 1).toNat=k
    lia
   rw [e,List.map_id]
  have x:=o whole;show ez _ _ (if (A0.1 == 0&&st.getD 1 == 1&&N0 == items.size)=d8 then _ else _) _ _ s;rw [Aa f];unfold Builtin.Tuple.tupleIsExact;refine ej (ej (wpAny_typeOf b.typeIs (et ?_)));rw [Aa (by decide)];exact ej (iC (et ⟨_,rfl,et x⟩))
 ·show ez _ _ (if (A0.1 == 0&&st.getD 1 == 1&&N0 == items.size)=d8 then _ else _) _ _ s;rw [Ab f];have a:sizeOk (.seq ((aZ N0).filterMap λ(k:Nat)=>items[(A0.1+(k:Int) * st.getD 1).toNat]?).toArray):=by show (((aZ N0).filterMap λ(k:Nat)=>items[(A0.1+(k:Int) * st.getD 1).toNat]?).toArray).size<=sizeLine;rw [ah]; exact z
  first
   | exact ej (m:=bI _) (fH (et ⟨_,rfl,et h⟩) a)
   | exact ej (m:=bI _) (fH (ej (et (et ⟨_,rfl,et h⟩))) a)
   | exact ej (ej (m:=bI _) (fH (et (et ⟨_,rfl,et h⟩)) a))
   | exact ej (ej (m:=bI _) (fH (et ⟨_,rfl,et h⟩) a))
end
def PoO (C:Ct) (own:List Nat) (σ:St) (F H:Hp) (r:Out (Option Int×Sl)) (Q:Option Int->Hp->Prop):Prop:=match r with
 | .ok (b,ρ')=>∀ F' H',Rep C.K own F' H' σ ρ'->Chg (OA own σ) F H F' H'->Q b H'
 | .exc c ρ'=>∀ F' H',Same F' H'->JK C.K C.ox F' H' σ ρ'->Chg (OA own σ) F H F' H'->C.E (C.cv c) d6 H'
 | .bad=>False
def tO (C:Ct) (own:List Nat) (f:Sl->Out (Option Int×Sl)):TO:=λσ H Q=>∃ F ρ,Rep C.K own F H σ ρ/\PoO C own σ F H (f ρ) Q
noncomputable def uZ:Option (qM)->Sl->Out (Option Int×Sl)
 | none,ρ=>.ok (d6,ρ)
 | some f,ρ=>(f ρ).bind λp=>match p.1 with
  | .int i=>.ok (d4 i,p.2)
  | _=>.bad
theorem Po.bindO {o:Out (Option Int×Sl)} {k:Option Int×Sl->za} {Q:VK} {R:Option Int->Hp->Prop} (hp:Po C own m σ F H (o.bind k) Q)
  (h:∀ F1 H1 b ρ1,Rep C.K own F1 H1 σ ρ1->Chg (OA own σ) F H F1 H1->Po C own m σ F1 H1 (k (b,ρ1)) Q->R b H1):PoO C own σ F H o R:=by
 cases o with
 | ok p=>obtain ⟨d,ρ1⟩:=p;exact λF1 H1 a c=>h F1 H1 d ρ1 a c (Po.shift (show Po C own m σ F H (k (d,ρ1)) Q from hp) c)
 | exc x=>exact hp
 | bad=>exact hp.elim
noncomputable def vM (fa:qM) (l u k:Option (qM)):qM:=λρ=>(fa ρ).bind λp=>(uZ l p.2).bind λa=>(uZ u a.2).bind λb=>(uZ k b.2).bind λc=>(slD a.1 b.1 c.1 p.1).plain.bind λd=>.ok (d,c.2)
section
variable {a:Expr} {fa f:qM} {p2:Pos}
theorem jv:PO X d6 (tO C own (uZ d6)):=by intro pins s σ H Q I ⟨F,ρ,a,h⟩;exact YO pins s σ H Q I (h F H a .refl)
theorem ka (h:PE X e (tE C own m f)):PO X (d4 e) (tO C own (uZ (d4 f))):=by
 intro pins s σ H Q I ⟨F,ρ,r,hp⟩;refine YQ h pins s σ H Q I ⟨F,ρ,r,?_⟩;have hp:PoO C own σ F H ((f ρ).bind λp=>match p.1 with | .int i=>.ok (d4 i,p.2) | _=>.bad) Q:=hp;cases q:f ρ with
 | ok p=>
  rw [q] at hp;obtain ⟨d,ρ1⟩:=p;cases d with
  | int i=>exact λv F1 H1 a l b=>⟨i,b.top.int,hp F1 H1 a l⟩
  | _=>exact hp.elim
 | exc c=>rw [q] at hp; exact hp
 | bad=>rw [q] at hp; exact hp.elim
theorem Vk {r:V->Option Int->Option Int->Option Int->Hp->VK->Prop} {tl th tk:TO} {lo hi st:Option Expr} (t:qbV X r) (z:PE X e te) (hl:PO X lo tl) (o:PO X hi th) (y:PO X st tk):PE X (.Subscript e (.Slice lo hi st p2) pos) (λσ H Q=>te σ H λx H1=>tl σ H1 λl H2=>th σ H2 λu K=>tk σ K λk d=>r x l u k d Q):=by
 refine ⟨?_⟩;intro pins s σ H Q I h;refine Subscript_ (thn (z pins s σ H _ I h) λv s1 ⟨x,H1,E,r1,j⟩=>?_);refine wpAny_Slice (thn (hl pins s1 σ H1 _ E j) λvl s2 ⟨l,H2,C,pl,i⟩=>thn (o pins s2 σ H2 _ C i) λa s3 ⟨u,K,U,p,f⟩=>thn (y pins s3 σ K _ U f) λc s4 ⟨k,d,B,n,g⟩=>?_);have D:Inv X pins σ d { s4 with heap:=s4.heap.push { cls:=.type "slice",data:=.fields #[vl,a,c] } }:=B.kept (t':=s4.toks) λb G q=>ae _ q;obtain ⟨T,id,hT,m,hg⟩:=t pins { s4 with heap:=s4.heap.push { cls:=.type "slice",data:=.fields #[vl,a,c] } } σ d x v vl a c l u k s4.heap.objs.size Q D r1 (Heap.IsSliceOf.new ..) pl p n g;show ez (model X.prog X.w) X.A (subscriptTail e (.Slice lo hi st p2) v (.ref s4.heap.objs.size)) (EP X pins σ Q) X.xe { s4 with heap:=s4.heap.push { cls:=.type "slice",data:=.fields #[vl,a,c] } };cases st with
 | none=>exact tail_any (ops:=[.ref s4.heap.objs.size,v]) m hT hg (by with_unfolding_all rfl)
 | some st=>exact tail_any (ops:=[v,.ref s4.heap.objs.size]) m hT hg (by with_unfolding_all rfl)
theorem xk {v:d5} {o:Option Int} (h:g0 v o):∃ l:Option (Int×Tok),v=partValue l/\l.map (·.1)=o:=by
 cases h with
 | none=>exact ⟨d6,rfl,rfl⟩
 | int i t=>exact ⟨d4 (i,t),rfl,rfl⟩
theorem qcx (G:C.K=X.K):qbV X (λx lo hi st H Q=>∃ F d,Same F H/\Is C.K F x d/\PoV C .sh F H (slD lo hi st d) Q):=by
 intro pins s σ H x v vl L M lo hi st sl Q I m D pl w y h;obtain ⟨F,d,A,is,po⟩:=h;cases d with
 | tup ds=>
  have f:=is;cases is with
  | @tup a xs _ hq t=>
   cases m;have g:SqT X.K H a xs:=by rw [<-G]; exact qO A hq
   obtain ⟨its,r,B,O⟩:=I.tuple g;have n:its.length=ds.length:=r.length.symm.trans t.length;have po:PoV C .sh F H (if st.getD 1≠0/\(kx (zq ds.length lo hi (st.getD 1)) ds).length<=sizeLine then .ok (.tup (kx (zq ds.length lo hi (st.getD 1)) ds)) else .bad) Q:=po;by_cases c:st.getD 1≠0/\(kx (zq ds.length lo hi (st.getD 1)) ds).length<=sizeLine
   ·rw [Aa c] at po;have i:=t.pick (zq ds.length lo hi (st.getD 1));have p:=uX r (zq ds.length lo hi (st.getD 1));refine ⟨"tuple",_,bJ.lookup,B.typeIs,uY B D pl w y c.1 (λe=>?_) ?_ ?_⟩;·rw [ah,n] at e;refine ⟨.ref a,H,I,rfl,po _ F H A .refl ?_⟩;rw [e,Uo];exact f
    ·simp only [ah,n];have j:(kx (zq ds.length lo hi (st.getD 1)) xs).length<=sizeLine:=by rw [i.length]; exact c.2
     refine ⟨.ref s.heap.objs.size,_,I.laid (t':=s.toks) (o:=.tup (kx (zq ds.length lo hi (st.getD 1)) xs)) (λb N q=>ae _ q) (ao _) ⟨⟨j,⟨_,aq _ rfl,rfl⟩⟩,_,p,IsTup.new _ _⟩,rfl,?_⟩;obtain ⟨s2,c2⟩:=vS (u:=.tup (kx (zq ds.length lo hi (st.getD 1)) xs)) A (I.hok.fresh (ao _));exact po _ _ _ s2 c2 (.tup (.inl (.inl ql)) (i.mono c2.grow))
    ·simp only [ah,n];rw [<-p.length,i.length];exact c.2
   ·rw [Ab c] at po; exact po.elim
 | str z=>
  cases is;obtain ⟨t,rfl⟩:=m;have po:PoV C .sh F H (if st.getD 1≠0/\(yL z lo hi (st.getD 1)).length<=sizeLine then .ok (.str (yL z lo hi (st.getD 1))) else .bad) Q:=po;by_cases c:st.getD 1≠0/\(yL z lo hi (st.getD 1)).length<=sizeLine
  ·rw [Aa c] at po;obtain ⟨l,rfl,el⟩:=xk pl;obtain ⟨u,rfl,J⟩:=xk w;obtain ⟨k,rfl,E⟩:=xk y;refine ⟨"str",_,PySem.F.slot_str_getitem.lookup,typeIs_str s z t,wpAny_getItem_str_slice (l:=l) (u:=u) (st:=k) D (by rw [E]; simpa using c.1) ?_⟩;have c2:=c.2;unfold sliceMade slicePicked;rw [el,J,E];unfold yL at c2 po;by_cases q:(st.getD 1 == 1&&(bW lo hi (st.getD 1) z.length).length == z.length)=d8;·rw [Aa q] at c2 po ⊢;exact ⟨.str z,H,I,⟨t,rfl⟩,po _ F H A .refl (.str c2)⟩
   ·rw [Ab q] at c2 po ⊢;exact ⟨c2,.str _,H,I.tok _,⟨_,rfl⟩,po _ F H A .refl (.str c2)⟩
  ·rw [Ab c] at po; exact po.elim
 | _=>exact po.elim
theorem vA {lo hi st:Option Expr} {l u k:Option (qM)} (w:C.K=X.K) (t:PE X e (tE C own ma fa)) (hl:PO X lo (tO C own (uZ l))) (q:PO X hi (tO C own (uZ u))) (s:PO X st (tO C own (uZ k))) (o:ma≠.any:=by decide):PE X (.Subscript e (.Slice lo hi st p2) pos) (tE C own .sh (vM fa l u k)):=by
 refine jd (Vk (qcx (C:=C) w) (uR t o) hl q s) λσ H Q ⟨F,ρ,p,h⟩=>⟨F,ρ,p,Po.bind h λv F1 H1 d ρ1 m B n h1=>?_⟩
 refine ⟨F1,ρ1,m,Po.bindO h1 λz H2 a j i c2 h2=>⟨z,j,i,Po.bindO h2 λA G b f g J y=>⟨A,f,g,Po.bindO y λM E c D r I x=>?_⟩⟩⟩;exact ⟨M,d,r.sub,((n.mono c2.grow).mono J.grow).mono I.grow,PoV.of r x⟩
end
noncomputable def Its (x:Str):It:=⟨λi _=>i < x.cps.size,λi H v H'=>H'=H/\∃ c,x.cps[i]?=d4 c/\v=.str ⟨#[c]⟩,λi _=>x.cps.size<=i⟩
noncomputable def vI (x:Str):List D:=x.cps.toList.map λc=>.str ⟨#[c]⟩
theorem Qv {P:eH} {w:eI} {K:Frag} {tg:Expr} (it:Addr) (x:Str) (t:Tok) (ty:String) (B:["enumerate", "zip", "dict_itemiterator", "dict_reverseitemiterator", "odict_iterator", "itertools.zip_longest", "itertools.pairwise"].contains ty=d7)
  (W:∀ A:eZ,A.handled=d6->Walks P w A it [it] [it] x.cps.size (SignAt x) (λi h=>h.IsStrIter it ty x t i)) (y:∀ (A:eZ) (i:Nat) (s:d9) (Q:d5->d9->Prop) (E:d5->d9->Prop),s.heap.IsStrIter it ty x t i->Q (.ref it) s->ez (model P w) A (pyIter (.ref it)) Q E s) :
  Turn P w K tg (Its x) [it] it (λi h=>h.IsStrIter it ty x t i/\i<=x.cps.size) where
 mem:=by simp
 obj:=λi h st b a=>by
  have e:b=it:=by simpa using a
  subst e;obtain ⟨o,e,c,d⟩:=st.1;exact ⟨o,e,λv z=>by rw [d] at z; cases z⟩
 keep:=λi h h' st k=>by obtain ⟨⟨o,e,r⟩,hi⟩:=st;exact ⟨⟨o,k it (by simp) o e,r⟩,hi⟩
 item:=by
  intro X m j n l i pins s σ H E I f st hg;subst m j n;obtain ⟨f0,f1,f2,p,f4,q⟩:=f it (by simp);refine (W X.A (I.ok.hd l)).item i s _ _ hg st.1 λv h' tk m g kp=>?_;have C:Inv X pins σ H { s with heap:=h',toks:=tk }:=I.turned (t':=tk) (λb o a e=>kp b o (by simpa using a) e) f0 f1 p f4 q;obtain ⟨o,e,c,d⟩:=id g;obtain ⟨U,u,h1,h2⟩:∃ U u,x.cps[i]?=d4 U/\v=dG ⟨#[U]⟩ u:=by
   unfold SignAt at m;first
    | exact m
    | (obtain ⟨U,u,h1,h2⟩:=m; exact ⟨U,u,h1,h2⟩)
    | (obtain ⟨U,h1,u,h2⟩:=m; exact ⟨U,u,h1,h2⟩)
    | (obtain ⟨u,U,h1,h2⟩:=m; exact ⟨U,u,h1,h2⟩)
  subst h2;exact ⟨_,rfl,Wy (s:={ s with heap:=h',toks:=tk }) e c d B ⟨.str ⟨#[U]⟩,H,C,⟨u,rfl⟩,⟨rfl,U,h1,rfl⟩,⟨g,hg⟩,λb a=>(f b a).1⟩⟩
 done:=by intro X m j n l i pins s σ H E I f st hg;subst m j n;obtain ⟨f0,f1,f2,p,f4,q⟩:=f it (by simp);have hi:i=x.cps.size:=Nat.le_antisymm st.2 hg;subst hi;exact (W X.A (I.ok.hd l)).done s _ _ st.1 λh' tk kp=>⟨rfl,I.turned (t':=tk) (λb o a e=>kp b o (by simpa using a) e) f0 f1 p f4 q⟩
 self:=λA i s Q E st h=>y A i s Q E st.1 h
theorem GD:ItIs K F (Its x) (vI x) where
 go:=λi H hi _=>by
  have:i < x.cps.size:=by simpa [vI] using hi
  exact this
 yld:=λi Fi H v H' d e s1 s2 y=>by
  obtain ⟨rfl,c,h1,rfl⟩:=y;have e:d=.str ⟨#[c]⟩:=by
   unfold vI at e;rw [aM] at e;have h1:x.cps.toList[i]?=d4 c:=by simpa using h1
   rw [h1] at e;exact (ax.inj e).symm
  subst e;exact ⟨Fi,.refl,s2,.str (Qo c)⟩
 stop:=λi H hi _=>by
  have:x.cps.size<=i:=by simpa [vI] using hi
  exact this
noncomputable def jR:D->Out (List D)
 | .lst xs=>.ok xs
 | .tup xs=>.ok xs
 | .str x=>.ok (vI x)
 | _=>.bad
noncomputable def uy (f:qM):kP:=λρ=>(f ρ).bind λp=>(jR p.1).bind λds=>.ok (ds,p.2)
section
variable {f:qM}
theorem GE {l:Expr} {tl:TE} (hl:PE X l tl):PI X tg l (λσ H R=>tl σ H λx H1=>(∃ a,x=.ref a/\(((∃ xs,SqL X.K H1 a xs)/\R (Itl X.K a) H1)\/((∃ xs,SqT X.K H1 a xs)/\R (Itt X.K a) H1)))\/∃ z,x=.str z/\R (Its z) H1):=by
 refine ⟨?_⟩;intro pins s σ H R I h;refine thn (hl pins s σ H _ I h) λv s1 ⟨x,H1,d,r1,c⟩=>?_;have fp:∀ b∈[s1.heap.objs.size],gf X pins H1 b:=λb f=>by
  have e:b=s1.heap.objs.size:=by simpa using f
  subst e;exact d.fpOk (ao _) (d.hok.fresh (ao _))
 rcases c with ⟨a,rfl,q⟩ | ⟨z,rfl,q⟩
 ·cases r1;rcases q with ⟨⟨xs,hq⟩,q⟩ | ⟨⟨xs,hq⟩,q⟩
  ·obtain ⟨its,r,p,C⟩:=d.list hq;refine wpAny_pyIter_list p.isList ?_;exact ⟨s1.heap.objs.size,[s1.heap.objs.size],_,_,H1,rfl,d.kept (t':=s1.toks) λb o e=>ae _ e,JW a _,⟨_,aq _ rfl,rfl,rfl⟩,fp,q⟩
  ·obtain ⟨its,r,p,C⟩:=d.tuple hq;refine wpAny_pyIter_tuple (show s1.heap.IsTuple a its.toArray from p) ?_;exact ⟨s1.heap.objs.size,[s1.heap.objs.size],_,_,H1,rfl,d.kept (t':=s1.toks) λb o e=>ae _ e,QW a _,⟨_,aq _ rfl,rfl,rfl⟩,fp,q⟩
 ·obtain ⟨t,rfl⟩:=r1;cases g:z.cps.all (· < 128) with
  | true=>refine wpAny_pyIter_ascii g ?_;exact ⟨s1.heap.objs.size,[s1.heap.objs.size],_,_,H1,rfl,d.kept (t':=s1.toks) λb o e=>ae _ e,Qv _ z t "str_ascii_iterator" (by decide) (λA hA=>Walks.strAscii hA _ z t) (λA i s Q E st h=>wpAny_pyIter_striter_ascii st h),⟨⟨_,aq _ rfl,rfl,rfl⟩,cw _⟩,fp,q⟩
  | false=>refine wpAny_pyIter_wide g ?_;exact ⟨s1.heap.objs.size,[s1.heap.objs.size],_,_,H1,rfl,d.kept (t':=s1.toks) λb o e=>ae _ e,Qv _ z t "str_iterator" (by decide) (λA hA=>Walks.strWide hA _ z t) (λA i s Q E st h=>wpAny_pyIter_striter_wide st h),⟨⟨_,aq _ rfl,rfl,rfl⟩,cw _⟩,fp,q⟩
theorem km (n:C.K=X.K) (h:PE X e (tE C own m f)) (b:m≠.any:=by decide):PI X tg e (tIt C own (uy f)):=by
 refine Gs (GE (uR h b)) λσ H R ⟨F,ρ,r,h⟩=>⟨F,ρ,r,PoI.bindV h λv F1 H1 d ρ1 a l c h1=>?_⟩
 have c:Is C.K F1 v d:=c;cases c with
 | lst p t=>exact .inl ⟨_,rfl,.inl ⟨⟨_,by rw [<-n]; exact a.sub.seq p⟩,by rw [<-n]; exact h1 _ F1 H1 a l (Gt p t)⟩⟩
 | tup p t=>exact .inl ⟨_,rfl,.inr ⟨⟨_,by rw [<-n]; exact qO a.sub p⟩,by rw [<-n]; exact h1 _ F1 H1 a l (Gu p t)⟩⟩
 | str z=>exact .inr ⟨_,rfl,h1 _ F1 H1 a l GD⟩
 | _=>exact h1.elim
end
noncomputable def zr (b:Bool):D->Out D
 | .lst ds=>match jZ ds with
  | some bs=>.ok (.int (bs.countP (· == b):Nat))
  | none=>.bad
 | _=>.bad
noncomputable def zt (b:Bool):D->Out D
 | .lst ds=>match jZ ds with
  | some bs=>match bs.findIdx? (· == b) with
   | some j=>.ok (.int (j:Nat))
   | none=>.bad
  | none=>.bad
 | _=>.bad
section
variable {o:Expr} {fo:qM} {apos:Pos} {b:Bool}
theorem zu (A:eZ) (s:d9) (c b:Bool):dZ A s (.bool c) (.bool b) (c == b):=SeqAt.EqAt.bool_bool _ _
theorem Up:MtR X "list.count" (λx vs H Q=>∃ (a:Addr) (xs:List V) (bs:List Bool) (b:Bool),x=.ref a/\vs=[.bl b]/\SqL X.K H a xs/\(∀ us,Vals xs us->us=bs.map aG)/\Q (.int (bs.countP (· == b):Nat)) H):=by
 intro pins s σ H x vs v us Q I f g h;obtain ⟨a,xs,bs,b,rfl,rfl,hq,i,q⟩:=h;cases f;obtain ⟨u,rfl,B⟩:=g.one;cases B;obtain ⟨its,r,pl,C⟩:=I.list hq;have e:=i its r;subst e;obtain ⟨⟨cls,dd,data,sl⟩,n,o,d,hd,t⟩:=pl;simp only at d hd t;subst d t;refine fK PySem.F.slot_list_count ⟨_,o,rfl⟩ PySem.F.entry_list_count (PySem.F.args_list_count_2 _ _) (SeqAt.list_countAt a _ n dd sl (.bool b) (λv=>v == .bool b)) ⟨o,λy D=>?_,?_⟩
 ·have D:y∈bs.map aG:=by simpa using D
  obtain ⟨c,_,rfl⟩:=aF.mp D;have e:(aG c == aG b)=(c == b):=by cases c <;> cases b <;> rfl
  show dZ _ s (.bool c) (.bool b) (aG c == aG b);rw [e];exact zu _ s c b
 ·refine ⟨.int (bs.countP (· == b):Nat),H,I.tok _,⟨s.toks,?_⟩,q⟩;have e:(bs.map aG).toArray.toList.countP (λv=>v == aG b)=bs.countP (· == b):=by rw [List.toList_toArray,List.countP_map];congr 1;funext c;cases c <;> cases b <;> rfl
  rw [e]
theorem Uq:MtR X "list.index" (λx vs H Q=>∃ (a:Addr) (xs:List V) (bs:List Bool) (b:Bool) (j:Nat),x=.ref a/\vs=[.bl b]/\SqL X.K H a xs/\(∀ us,Vals xs us->us=bs.map aG)/\bs.findIdx? (· == b)=d4 j/\Q (.int (j:Nat)) H):=by
 intro pins s σ H x vs v us Q I l p h;obtain ⟨a,xs,bs,b,j,rfl,rfl,hq,w,G,q⟩:=h;cases l;obtain ⟨u,rfl,B⟩:=p.one;cases B;obtain ⟨its,r,pl,C⟩:=I.list hq;have e:=w its r;subst e;obtain ⟨⟨cls,dd,data,sl⟩,n,o,k,hd,t⟩:=pl;simp only at k hd t;subst k t;obtain ⟨i,g,f⟩:=List.findIdx?_eq_some_iff_getElem.mp G;have d:bs.length<=sizeLine:=by have:=r.length; simp at this; lia
 have ev:∀ c:Bool,(aG c == aG b)=(c == b):=λc=>by cases c <;> cases b <;> rfl
 refine fK PySem.F.slot_list_index ⟨_,o,rfl⟩ PySem.F.entry_list_index (PySem.F.args_list_index_2 _ _) (SeqAt.list_indexAt a _ n dd sl (.bool b) (λv=>v == .bool b) j (by simpa using i) (by rw [ff] at d; lia) (by simp [ev]; simpa using g) λm z h1=>?_) ⟨o,λy D=>?_,?_⟩;·have:=f m h1;simp [ev];simpa using this
 ·have D:y∈bs.map aG:=by simpa using D
  obtain ⟨c,_,rfl⟩:=aF.mp D;show dZ _ s (.bool c) (.bool b) (aG c == aG b);rw [ev];exact zu _ s c b
 ·exact ⟨.int (j:Nat),H,I.tok _,⟨_,rfl⟩,q⟩
theorem Ur {l c2} (z:C.K=X.K) (y:PE X o (tE C own m fo))
  (f:fg o "count" X.env (eval o X.env)=eval o X.env:=by rfl)
  (w:((e9 cpos (eh [.Constant (.bool b) l c2] X.env)).all (λx=>!x.1)&&(fJ cpos (fh [] X.env)).all (λx=>x.1.isSome)
   && decide ([Expr.Constant (.bool b) l c2].length+([]:List fB).length+(if ([]:List fB).isEmpty then 0 else 1) < 30))=true:=by exact wf rfl)
  (e:(apos.endLine == cpos.line)=true:=by rfl) (s:eh [.Constant (.bool b) l c2] X.env=[(d7,eval (.Constant (.bool b) l c2) X.env)]:=by exact qJ rfl) :
  PE X (.Call (.Attribute o "count" apos) [.Constant (.bool b) l c2] [] cpos) (tE C own .sh (d1 (zr b) fo)):=by
 refine jd (WI bQ PySem.F.slot_list_count PySem.F.type_list_count Up y (qF YA jw s) f w e s rfl) λσ H Q h=>?_;obtain ⟨F,ρ,u,h⟩:=gm (ma:=m) h;refine ⟨F,ρ,u,?_⟩;cases q:fo ρ with
 | ok p=>
  rw [q] at h;obtain ⟨d,ρ1⟩:=p;intro v F1 H1 i l k;obtain ⟨B,dx,A,n,po⟩:=h v F1 H1 i l k;cases dx <;> try exact po.elim
  rename_i ds;unfold zr at po;cases j:jZ ds with
  | none=>simp only [j] at po; exact po.elim
  | some bs=>
   simp only [j] at po;obtain ⟨a,vs,rfl,hq,t⟩:=n.lst A;have g:SqL X.K H1 a vs:=by rw [<-z]; exact hq
   exact ⟨.inl ⟨rfl,vs,g⟩,a,vs,bs,b,rfl,rfl,g,λus r=>xj t r j,po _ B H1 A .refl (.int _)⟩
 | exc c=>rw [q] at h; exact h
 | bad=>rw [q] at h; exact h.elim
theorem Us {l c2} (D:C.K=X.K) (B:PE X o (tE C own m fo))
  (f:fg o "index" X.env (eval o X.env)=eval o X.env:=by rfl)
  (w:((e9 cpos (eh [.Constant (.bool b) l c2] X.env)).all (λx=>!x.1)&&(fJ cpos (fh [] X.env)).all (λx=>x.1.isSome)
   && decide ([Expr.Constant (.bool b) l c2].length+([]:List fB).length+(if ([]:List fB).isEmpty then 0 else 1) < 30))=true:=by exact wf rfl)
  (e:(apos.endLine == cpos.line)=true:=by rfl) (u:eh [.Constant (.bool b) l c2] X.env=[(d7,eval (.Constant (.bool b) l c2) X.env)]:=by exact qJ rfl) :
  PE X (.Call (.Attribute o "index" apos) [.Constant (.bool b) l c2] [] cpos) (tE C own .sh (d1 (zt b) fo)):=by
 refine jd (WI bQ PySem.F.slot_list_index PySem.F.type_list_index Uq B (qF YA jw u) f w e u rfl) λσ H Q h=>?_;obtain ⟨F,ρ,z,h⟩:=gm (ma:=m) h;refine ⟨F,ρ,z,?_⟩;cases q:fo ρ with
 | ok p=>
  rw [q] at h;obtain ⟨d,ρ1⟩:=p;intro v F1 H1 i l s;obtain ⟨E,dx,A,y,po⟩:=h v F1 H1 i l s;cases dx <;> try exact po.elim
  rename_i ds;unfold zt at po;cases n:jZ ds with
  | none=>simp only [n] at po; exact po.elim
  | some bs=>
   simp only [n] at po;cases k:bs.findIdx? (· == b) with
   | none=>simp only [k] at po; exact po.elim
   | some j=>
    simp only [k] at po;obtain ⟨a,vs,rfl,hq,t⟩:=y.lst A;have g:SqL X.K H1 a vs:=by rw [<-D]; exact hq
    exact ⟨.inl ⟨rfl,vs,g⟩,a,vs,bs,b,j,rfl,rfl,g,λus r=>xj t r n,k,po _ E H1 A .refl (.int _)⟩
 | exc c=>rw [q] at h; exact h
 | bad=>rw [q] at h; exact h.elim
end
end L2.D2
namespace L2.D2
open PySem PySem.Spec PySem.Calls PyProof.Rows PySem.W Builtin Builtin.ObjectAttr Builtin.Getset_descriptor
variable {K:Frag} {R:Result->d9->Prop}
section
variable {prog:eH} {w:eI} {A:eZ} {E:d5->d9->Prop} {h:Heap} {g:Array ij} {d:Drawn} {t:Nat} {os:fj} {a C:Addr} {o:Obj}
theorem GF (X:K.In h) (b:Looks (model prog w) h (ig (.ref a)) (.ref C)) (c:mroIn K C (.type "object")=d4 d8) (hq:R (.ok (.ret (.ref C))) ⟨h,g,d,t,os⟩):fE (model prog w) A (.call (.builtin "getset_descriptor.__get__") ⟨[.builtin "object.__class__",.ref a,.ref C],[]⟩) R ⟨h,g,d,t,os⟩:=by
 have L:=looks_mroIn (M:=model prog w) X c;refine codeAny_call_builtin KF.slot_gs.plain KF.entry_gs (KF.slot_gs.check _ _ _ _ _ _ _ _ dI (KF.args_gs _ _ _) ?_);unfold Builtin.«getset_descriptor.__get__» descrGet;rw [dga_obj];refine ej (et ?_);unfold descrGetter descrCheckInstance descrNameAndClass isInstance;simp only [KF.owner_class];repeat lk
 refine ⟨Code.quiet_builtin _ (by decide +kernel),fR KF.entry_class ?_⟩;unfold Builtin.«object.__class__» shownTypeOf;repeat lk
 exact hq
theorem Ut {n:d5} {Q:Unit->d9->Prop} (X:K.In h) (e:Looks (model prog w) h (ig (.ref a)) (.ref C)) (c:subIn K (.ref C) (.type "BaseException")=d4 d8) (hq:Q () ⟨h,g,d,t,os⟩):ez (model prog w) A (checkBuiltinCall "BaseException.__getattribute__" ⟨[.ref a,n],[]⟩) Q E ⟨h,g,d,t,os⟩:=by
 have k:builtinKind "BaseException.__getattribute__"=d4 .slot:=by decide +kernel
 have b:splitId "BaseException.__getattribute__"=d4 ("BaseException", "__getattribute__"):=by decide +kernel
 have f:=F.args_bexc_ga (.ref a) n;have L:Looks (model prog w) h (isInstance (.ref a) (.type "BaseException")) true:=e.andThen (looks_subIn X c);simp only [checkBuiltinCall,k,b];refine ej (L.at ?_);repeat (first | assumption | wp_step)
theorem Uu {tk:Tok} {Q:Fin->d9->Prop} (X:K.In h) (b:Looks (model prog w) h (ig (.ref a)) (.ref C)) (W:g9 K (.ref C) "__class__"=d4 (d4 (.builtin "object.__class__"))) (c:mroIn K C (.type "object")=d4 d8) (hq:Q (.done (.ret (.ref C))) ⟨h,g,d,t,os⟩):ez (model prog w) A (Builtin.«object.__getattribute__» ⟨[.ref a,.str "__class__" tk],[]⟩) Q E ⟨h,g,d,t,os⟩:=by
 have L:=looks_findIn (M:=model prog w) X W;have e:(⟨h,g,d,t,os⟩:d9).TypeIs (.builtin "object.__class__") "getset_descriptor":=dI;have q:=dI;have i:=F.slot_gs_get.lookup;have f:=F.slot_gs_set.lookup;repeat (any_goals (first | assumption | with_reducible refine b.at ?_ | with_reducible refine L.at ?_ | wp_step))
 refine GF X b c ?_;repeat (any_goals (first | assumption | wp_step))
theorem Xz {tk:Tok} (X:K.In h) (b:Looks (model prog w) h (ig (.ref a)) (.ref C)) (c:subIn K (.ref C) (.type "BaseException")=d4 d8) (W:g9 K (.ref C) "__class__"=d4 (d4 (.builtin "object.__class__"))) (m:mroIn K C (.type "object")=d4 d8) (hq:R (.ok (.ret (.ref C))) ⟨h,g,d,t,os⟩):fE (model prog w) A (.call (.builtin "BaseException.__getattribute__") ⟨[.ref a,.str "__class__" tk],[]⟩) R ⟨h,g,d,t,os⟩:=
 codeAny_call_builtin F.excAttr_ValueError.ga.plain F.entry_bexc_ga (Ut X b c (Uu X b W m hq))
theorem qbq {tk:Tok} {f e:Bool} {Q:d5->d9->Prop} (X:K.In h) (L:Looks (model prog w) h (ig (.ref a)) (.ref C)) (s:subIn K (.ref C) (.type "BaseException")=d4 d8) (g1:g9 K (.ref C) "__getattribute__"=d4 (d4 (.builtin "BaseException.__getattribute__"))) (Y:g9 K (.ref C) "__getattr__"=d4 d6)
  (W:g9 K (.ref C) "__class__"=d4 (d4 (.builtin "object.__class__"))) (m:mroIn K C (.type "object")=d4 d8) (hq:Q (.ref C) ⟨h,g,d,t,os⟩) :
  ez (model prog w) A (getAttrBy (.ref a) (.str "__class__" tk) f e) Q E ⟨h,g,d,t,os⟩:=by
 have j:=looks_findIn (M:=model prog w) X g1;have L2:=looks_findIn (M:=model prog w) X Y;have k:=F.excAttr_ValueError.ga.bind (.ref a);have i:(e&&onTheHeap (cK "BaseException.__getattribute__"))=false:=by cases e <;> rfl
 have b:(cK "BaseException.__getattribute__" == cK "object.__getattribute__")=false:=by decide +kernel
 have c:(onTheHeap (bi C)&&cK "BaseException.__getattribute__" == cK "object.__getattribute__")=false:=by rw [b]; rfl
 repeat (any_goals (first | assumption | with_reducible refine L.at ?_ | with_reducible refine j.at ?_ | with_reducible refine L2.at ?_ | wp_step))
 refine Xz X L s W m ?_;repeat (any_goals (first | assumption | wp_step))
theorem XA {Q:Option d5->d9->Prop} (X:K.In h) (b:Looks (model prog w) h (ig (.ref a)) (.ref C)) (c:subIn K (.ref C) (.type "BaseException")=d4 d8) (g1:g9 K (.ref C) "__getattribute__"=d4 (d4 (.builtin "BaseException.__getattribute__"))) (Y:g9 K (.ref C) "__getattr__"=d4 d6)
  (W:g9 K (.ref C) "__class__"=d4 (d4 (.builtin "object.__class__"))) (m:mroIn K C (.type "object")=d4 d8) (hq:Q (d4 (.ref C)) ⟨h,g,d,t+1,os⟩) :
  ez (model prog w) A (getAttr? (.ref a) "__class__") Q E ⟨h,g,d,t,os⟩:=by
 unfold getAttr? getAttrBy?;exact ej (wpAny_mkText (ej (wpAny_attempt (qbq X b c g1 Y W m (et hq)))))
end
noncomputable def xcB (K:Frag) (C:Addr):Bool:=decide (subIn K (.ref C) (.type "BaseException")=d4 d8)&&decide (g9 K (.ref C) "__getattribute__"=d4 (d4 (.builtin "BaseException.__getattribute__")))&&decide (g9 K (.ref C) "__getattr__"=d4 d6) &&
 decide (g9 K (.ref C) "__class__"=d4 (d4 (.builtin "object.__class__")))&&decide (mroIn K C (.type "object")=d4 d8)&&(clsIn K C).isSome
def XB (a C:Addr) (h:Heap):Prop:=∃ o vs,h.get? a=d4 o/\o.cls=.ref C/\o.data=.fields vs
theorem Uv {a C:Addr} (b:xcB K C=d8):KitX K (.ref a) (.ref C) (XB a C):=by
 unfold xcB at b;simp only [aA,decide_eq_true_eq] at b;obtain ⟨⟨⟨⟨⟨B,r⟩,z⟩,l⟩,f⟩,i⟩:=b;have ty:∀ (M:Model) (h:Heap),XB a C h->Looks M h (ig (.ref a)) (.ref C):=λM h ⟨u,vs,e1,j,v⟩=>by rw [<-j]; exact (Looks.ld e1).andThen .now
 refine ⟨λM h _ x=>ty M h x,λM h X _=>?_,λh p dd its n sl X m=>?_,λ{prog w A E Q s} X x hq=>?_⟩
 ·unfold clsIn at i;split at i;·rename_i U d' e c o;intro G y D s' k q;unfold isType loadHead;exact ej (wpAny_loadPart (k _ _ (X _ _ o)) (et q))
  ·cases i
 ·refine Bool.eq_false_iff.mpr λq=>?_;have q:bi C=bi p:=beq_iff_eq.mp q;cases q;unfold clsIn at i;split at i;·rename_i U d' e c o;rw [X _ _ o] at m;cases m
  ·cases i
 ·obtain ⟨h,g,d,t,os⟩:=s;exact XA X (ty _ h x) B r z l f hq
noncomputable def xR (ans:Addr->Option Bool):D->Out D
 | .xcp C=>match ans C with
  | some b=>.ok (.bl b)
  | none=>.bad
 | _=>.bad
variable {cn:Str}
section
variable {X:Cx} {C:Ct} {own:List Nat} {a:Expr} {fa:qM} {ma:Mo} {pos:Pos} {cls:d5} {vc:V} {ans:Addr->Option Bool}
theorem Qw (g:∀ Cc b,ans Cc=d4 b->xcB X.K Cc=d8/\kitOne X.K (.ref Cc) cls=d4 b) (j:RelV vc cls):vG X (.builtin "isinstance") (λxs H Q=>∃ x F d,xs=[x,vc]/\Same F H/\TopIs C.K F H x d/\PoV C .sh F H (xR ans d) Q):=by
 intro pins s σ H xs us Q I r h;obtain ⟨x,F,d,rfl,A,f,po⟩:=h;obtain ⟨u,c,rfl,B,a⟩:=WD r;cases d with
 | xcp Cc=>
  unfold xR at po;cases q:ans Cc with
  | none=>simp only [q] at po; exact po.elim
  | some b=>
   simp only [q] at po;obtain ⟨h1,h2⟩:=g Cc b q;rcases f with f | ⟨_,_,f⟩
   ·cases f with
    | @xcp ad _ hF=>
     cases B;have hx:XB ad Cc s.heap:=(show ObjOk X.prog X.w H s.heap ad (gl ad Cc) from I.hok ad _ (A _ _ hF)).1;have e:cls=c:=by
      cases vc with
      | ref z=>exact (show cls=bi z from j).trans (show c=bi z from a).symm
      | ty z=>exact (show cls=cF z from j).trans (show c=cF z from a).symm
      | non=>exact (show cls=c6 from j).trans (show c=c6 from a).symm
      | bl z=>exact (show cls=aG z from j).trans (show c=aG z from a).symm
      | int z=>obtain ⟨t,rfl⟩:=j; unfold kitOne kitCls at h2; simp at h2
      | str z=>obtain ⟨t,rfl⟩:=j; unfold kitOne kitCls at h2; simp at h2
      | byt z=>obtain ⟨t,rfl⟩:=j; unfold kitOne kitCls at h2; simp at h2
      | flt z=>obtain ⟨t,rfl⟩:=j; unfold kitOne kitCls at h2; simp at h2
     subst e;exact kia_one (Uv h1) I.kIn hx h2 (λz=>nomatch z) λtk=>⟨.bl b,H,I.tok tk,rfl,po _ F H A .refl (.bl b)⟩
   ·exact f.elim
 | _=>exact po.elim
theorem Qx {σ:St} {H:Hp} {Q:VK} (h:tE C own .sh (d1 (xR ans) fa) σ H Q):Je (tE C own ma fa) (Je (tC vc) ZY) σ H λxs H1=>∃ x F d,xs=[x,vc]/\Same F H1/\TopIs C.K F H1 x d/\PoV C .sh F H1 (xR ans d) Q:=by
 obtain ⟨F,ρ,r,h⟩:=gm (ma:=ma) h;refine ⟨F,ρ,r,?_⟩;cases q:fa ρ with
 | ok p=>rw [q] at h;obtain ⟨d,ρ1⟩:=p;intro v F1 H1 a l m;obtain ⟨b,dx,z⟩:=h v F1 H1 a l m;exact ⟨v,b,dx,rfl,z⟩
 | exc c=>rw [q] at h; exact h
 | bad=>rw [q] at h; exact h.elim
theorem wy {Ct:Addr} {p t:Pos} (hg:Gl X "isinstance") (f:X.mg "isinstance"=d6) (d:eG "isinstance"=d4 (.builtin "isinstance")) (m:Gl X cn) (e:X.mg cn=d4 (.ref Ct)) (g:∀ Cc b,ans Cc=d4 b->xcB X.K Cc=d8/\kitOne X.K (.ref Cc) (.ref Ct)=d4 b) (i:PE X a (tE C own ma fa)) (c:Dbg cn:=by decide)
  (h1:eh [a,.Name cn t] X.env=(d7,eval a X.env)::eh [.Name cn t] X.env:=by rfl) (h2:eh [.Name cn t] X.env=[(d7,eval (.Name cn t) X.env)]:=by rfl):PE X (.Call (.Name "isinstance" p) [a,.Name cn t] [] pos) (tE C own .sh (d1 (xR ans) fa)):=
 jd (vw (Qw (vc:=.ref Ct) g rfl) hg f d (qF i (qF (JT (v:=.ref Ct) m e rfl c) jw h2) h1) (by decide) (by decide) (by rw [h1]) (by rw [h2]; rfl)) λσ H Q h=>Qx h
theorem XC {T:String} {p t:Pos} (hg:Gl X "isinstance") (i:X.mg "isinstance"=d6) (f:eG "isinstance"=d4 (.builtin "isinstance")) (m:Gl X cn) (e:X.mg cn=d6) (c:eG cn=d4 (.type T)) (g:∀ Cc b,ans Cc=d4 b->xcB X.K Cc=d8/\kitOne X.K (.ref Cc) (.type T)=d4 b) (j:PE X a (tE C own ma fa)) (n:cn ≠ "__name__":=by decide) (d:Dbg cn:=by decide)
  (h1:eh [a,.Name cn t] X.env=(d7,eval a X.env)::eh [.Name cn t] X.env:=by rfl) (h2:eh [.Name cn t] X.env=[(d7,eval (.Name cn t) X.env)]:=by rfl):PE X (.Call (.Name "isinstance" p) [a,.Name cn t] [] pos) (tE C own .sh (d1 (xR ans) fa)):=
 jd (vw (Qw (vc:=.ty T) g rfl) hg i f (qF j (qF (JU (v:=.ty T) m e c rfl n d) jw h2) h1) (by decide) (by decide) (by rw [h1]) (by rw [h2]; rfl)) λσ H Q h=>Qx h
end
end L2.D2
namespace L2.D2
open PySem PySem.Spec PyProof.Rows
variable {P:eH} {w:eI} {K:Frag} {N:List Str} {A:eZ} {C:Ct}
theorem GG {mg:Str->Option d5} {base:Heap} {qual:Str} {scope:fN} {f:Addr} {cd:d5} {outer:List Env} {s0:d9} {H0:Hp} {E:XK} (h:C.E=E):Qs (cxk P w K mg base N qual scope f cd A outer s0 H0 E) C:=by subst h;exact Gx
theorem RoomQ.mono {j k:Nat} (r:RoomQ k A) (h:j<=k):RoomQ j A:=⟨by have:=r.dp; lia,by have:=r.un; lia⟩
noncomputable def GH (ca:Str->Addr) (cs:List Str) (c:Str):Option Addr:=if c∈cs then d4 (ca c) else d6
noncomputable def Js (ca:Str->Addr) (cs:List Str) (x:Str) (C:Addr):Option Bool:=if C∈cs.map ca then d4 (decide (C=ca x)) else d6
noncomputable def GI (ca:Str->Addr) (cs:List Str) (C:Addr):Option Bool:=if C∈cs.map ca then d4 d8 else d6
structure Xs (K:Frag) (cv:Str->d5) (ca:Str->Addr) (cs:List Str) (top:Str):Prop where
 val:∀ c∈cs,cv c=.ref (ca c)
 own:∀ c∈cs,ce K (.ref (ca c)) (cv top)=d4 d8
 cls:∀ c∈cs,xcB K (ca c)=d8
 kit:∀ c∈cs,∀ d∈cs,bo K (.ref (ca c)) (.ref (ca d))=d4 (decide (ca c=ca d))
 ve:∀ c∈cs,bo K (.ref (ca c)) (.type "ValueError")=d4 d8
section
variable {cv:Str->d5} {ca:Str->Addr} {cs:List Str} {top:Str}
theorem Xs.hit (z:Xs K cv ca cs top):∀ c Cc,GH ca cs c=d4 Cc->cv c=.ref Cc/\ce K (.ref Cc) (cv top)=d4 true:=λc Cc h=>by
 unfold GH at h;split at h;·cases h;exact ⟨z.val c (by assumption),z.own c (by assumption)⟩
 ·cases h
theorem Xs.ans (z:Xs K cv ca cs top) {x:Str} (hx:x∈cs):∀ Cc b,Js ca cs x Cc=d4 b->xcB K Cc=d8/\bo K (.ref Cc) (.ref (ca x))=d4 b:=λCc b h=>by
 unfold Js at h;split at h;·rename_i m;obtain ⟨c,d,rfl⟩:=aF.mp m;cases h;exact ⟨z.cls c d,z.kit c d x hx⟩
 ·cases h
theorem Xs.ansV (z:Xs K cv ca cs top):∀ Cc b,GI ca cs Cc=d4 b->xcB K Cc=d8/\bo K (.ref Cc) (.type "ValueError")=d4 b:=λCc b h=>by
 unfold GI at h;split at h;·rename_i m;obtain ⟨c,d,rfl⟩:=aF.mp m;cases h;exact ⟨z.cls c d,z.ve c d⟩
 ·cases h
end
inductive SK where
 | l | t
noncomputable def SK.itc:SK->String
 | .l => "list_iterator"
 | .t => "tuple_iterator"
def SeqK (h:Heap) (a:Addr):SK->Array d5->Prop
 | .l,xs=>h.IsList a xs
 | .t,xs=>h.IsTuple a xs
def ItK (h:Heap) (it a:Addr):SK->Nat->Prop
 | .l,i=>h.IsListIter it a i
 | .t,i=>h.IsTupleIter it a i
def SqK (K:Frag) (H:Hp) (a:Addr):SK->List V->Prop
 | .l,xs=>SqL K H a xs
 | .t,xs=>SqT K H a xs
variable {h h':Heap} {a:Addr} {xs:Array d5}
theorem SeqK.at:∀ {k:SK},SeqK h a k xs->(∀ o,h.get? a=d4 o->h'.get? a=d4 o)->SeqK h' a k xs
 | .l,⟨o,e,c⟩,k=>⟨o,k _ e,c⟩
 | .t,⟨o,e,c⟩,k=>⟨o,k _ e,c⟩
theorem SeqK.lt:∀ {k:SK},SeqK h a k xs->a < h.objs.size
 | .l,⟨o,e,c⟩=>am e
 | .t,⟨o,e,c⟩=>am e
variable {i:Nat}
theorem ItK.of {it:Addr}:∀ {k:SK},(∃ o,h.get? it=d4 o/\o.cls=.type k.itc/\o.data=.fields #[.ref a,.int i 0])->ItK h it a k i
 | .l,⟨o,e,c,d⟩=>⟨o,e,c,d⟩
 | .t,⟨o,e,c,d⟩=>⟨o,e,c,d⟩
variable {E:d5->d9->Prop} {prog:eH} {s:d9} {n:Nat}
section
theorem qbr {k:SK} {Q:d5->d9->Prop} (h:SeqK s.heap a k xs) (c:Q (.ref s.heap.objs.size) { s with heap:=s.heap.push { cls:=.type k.itc,data:=.fields #[.ref a,.int 0 0] } }):ez (model prog w) A (pyIter (.ref a)) Q E s:=by
 cases k with
 | l=>exact wpAny_pyIter_list h c
 | t=>exact wpAny_pyIter_tuple h c
noncomputable def SK.cl:SK->String
 | .l => "list"
 | .t => "tuple"
theorem SeqK.of {o:Obj} (e:h.get? a=d4 o) (d:o.data=.seq xs n):∀ {k:SK},o.cls=.type k.cl->SeqK h a k xs
 | .l,c=>⟨o,e,c,n,d⟩
 | .t,c=>⟨o,e,c,n,d⟩
end
noncomputable def qbs:D->Option Key
 | .int i=>d4 (.inl i)
 | .str x=>d4 (.inr x)
 | _=>d6
variable {F H:Hp} {d:D} {ds:List D}
theorem GJ {v:V} (A:Same F H) (h:TopIs K F H v d) (e:Ua d=.ok ds):∃ a k xs,v=.ref a/\SqK K H a k xs/\IsL K F xs ds:=by
 cases d with
 | lst es=>cases e; obtain ⟨a,xs,rfl,q,t⟩:=h.lst A; exact ⟨a,.l,xs,rfl,q,t⟩
 | tup es=>cases e; obtain ⟨a,xs,rfl,q,t⟩:=h.tup A; exact ⟨a,.t,xs,rfl,q,t⟩
 | _=>cases e
theorem IsK.any {k:Key}:∀ {kv:List (Key×V)} {ks:List (Key×D)},IsK K F kv ks->(kv.any λp=>decide (p.1=k))=(ks.any λp=>decide (p.1=k))
 | _,_,.nil=>rfl
 | _,_,.cons h t=>by rw [dk,dk,IsK.any t]
variable {X:Cx} {σ:St} {vs:List V}
section
variable {pins:Pns}
theorem GK (I:Inv X pins σ H s):∀ {k:SK},SqK X.K H a k vs->∃ its o n,Vals vs its/\s.heap.get? a=d4 o/\o.cls=.type k.cl/\o.dict=d6/\o.data=.seq its.toArray n/\vs.length<=sizeLine
 | .l,h=>let ⟨its,r,⟨o,n,e,c,b,hd⟩,C⟩:=I.list h; ⟨its,o,n,r,e,c,b,hd,C⟩
 | .t,h=>by obtain ⟨its,r,⟨o,e,c,n,hd⟩,C⟩:=I.tuple h;obtain ⟨o2,d,b⟩:=I.tupleN h;rw [e] at d; cases d;exact ⟨its,o,n,r,e,c,b,hd,C⟩
noncomputable def qbW (kvs:List (Key×D)) (k:Key):Bool:=kvs.any λp=>decide (p.1=k)
noncomputable def Yr:D->D->Out D
 | x,.dct kvs=>match qbs x with
  | some k=>.ok (.bl (!qbW kvs k))
  | none=>.bad
 | x,y=>Jh x y
theorem Uw {kv:List (Key×V)} {ks:List (Key×D)} {k:Key} (h:IsK K F kv ks):(Jf kv k).isSome=qbW ks k:=by rw [<-Qi,h.any]; rfl
theorem qcy {v:V} {k:Key} (h:TopIs C.K F H v d) (e:qbs d=d4 k):v=kV k:=by
 cases d with
 | int z=>cases e; exact h.int
 | str z=>cases e; exact h.str.1
 | _=>cases e
theorem Vl (n:C.K=X.K) (f:X.A.units+64 < fz):OpD X C .sh (eJ .NotIn) Yr:=by
 intro pins s σ H x y v u Q I r c h;obtain ⟨F,dx,d,b,t,ty,po⟩:=h;by_cases hd:∃ kvs,d=.dct kvs
 ·obtain ⟨kvs,rfl⟩:=hd;cases q:qbs dx with
  | none=>unfold Yr at po; simp only [q] at po; exact po.elim
  | some k=>
   unfold Yr at po;simp only [q] at po;obtain ⟨a,kv,rfl,g,i⟩:=ty.dct b;cases c;have ex:=qcy t q;subst ex;refine YY (by lia) I (DGet.k (k:=k) g) r λs' j=>⟨.bl _,H,j,rfl,?_⟩
   rw [Uw i];exact po _ F H b .refl (.bl _)
 ·have e:Yr dx d=Jh dx d:=by cases d <;> first | rfl | exact absurd ⟨_,rfl⟩ hd
  rw [e] at po;exact WR n f pins s σ H x y v u Q I r c ⟨F,dx,d,b,t,ty,po⟩
end
theorem XD (t:g7) (es:Array (Int×d5)) (h:Int) (x:d5):(layNew t es h x).2.1.led=t.led:=by
 unfold layNew;cases t.freeSlot h with
 | none=>rfl
 | some p=>obtain ⟨sl,w⟩:=p;show (SetTable.orStandIn (t.put sl).1 _).led=t.led;unfold SetTable.orStandIn;split <;> rfl
variable {t:g7}
theorem XE {m f v:Nat} {l p:Bool} {c:Array Int} {o:Array Nat} (h:dJ m f v l p c=d4 (t,o)):t.led=l/\t.plain=p:=by
 unfold dJ at h;cases e:SetTable.layClean m c with
 | none=>rw [e] at h;cases h
 | some ow=>rw [e] at h;have h2:=congrArg Prod.fst (ax.inj h);subst h2;exact ⟨rfl,rfl⟩
theorem gD (t:g7) (es:Array (Int×d5)) (n:Nat):(hJ t es n).2.1.led=t.led/\(t.plain=d7->(hJ t es n).2.1.plain=d7):=by
 unfold hJ;cases e:t.relaid (es.map (·.1)) n with
 | none=>exact ⟨rfl,λ_=>rfl⟩
 | some q=>
  obtain ⟨t',o⟩:=q;have k:=XE (show dJ _ _ _ _ _ _=d4 (t',o) from e);dsimp only;split;·exact ⟨k.1,λz=>k.2.trans z⟩
  ·exact ⟨rfl,λ_=>rfl⟩
variable {κ:Type}
noncomputable def uh [DecidableEq κ] (ks:List κ) (x:κ):List κ:=if x∈ks then ks else ks++[x]
noncomputable def gb (ks:List Str) (x:Str):List Str:=if x∈ks then ks else ks++[x]
noncomputable def ya (es:Array (Int×d5)) (e:Nat) (t:g7):Obj:={ cls:=.type "set",dict:=d6,data:=.set es e t,slots:=#[] }
structure KP (κ:Type) [DecidableEq κ] where
 kd:∀ (p:eH) (w:eI),PySem.KeyKind p w κ
 of:d5->κ
 pb:Bool
 ofi:∀ {p:eH} {w:eI} {x:κ} {v:d5},(kd p w).is x v=d8->of v=x
 sc:∀ {p:eH} {w:eI} {x:κ} {v:d5},(kd p w).is x v=d8->v.scannable=d8
 pl:∀ {p:eH} {w:eI} {x:κ} {v:d5},(kd p w).is x v=d8->pb=d8->plainKind v=d7
noncomputable def KpS:KP Str where
 kd:=PySem.strKind
 of:=strOf
 pb:=d8
 ofi:=λh=>let ⟨_,e⟩:=cj h; by rw [e]; rfl
 sc:=λh=>let ⟨_,e⟩:=cj h; by rw [e]; rfl
 pl:=λh _=>let ⟨_,e⟩:=cj h; by rw [e]; rfl
structure SetG {κ:Type} [DecidableEq κ] (T:KP κ) (prog:eH) (w:eI) (es:Array (Int×d5)) (t:g7) (ks:List κ):Prop where
 el:ElemsOf (T.kd prog w) es.toList
 perm:(es.toList.map λe=>T.of e.2).Perm ks
 nd:ks.Nodup
 bd:es.size < fV
 fits:t.fits es.size=d8
 led:t.led=!(w.params.followText "set-order")
 plain:T.pb=d8->ks≠[]->t.plain=d7
def SetK {κ:Type} [DecidableEq κ] (T:KP κ) (prog:eH) (w:eI) (h:Heap) (a:Addr) (ks:List κ):Prop:=∃ es e t,h.get? a=d4 (ya es e t)/\SetG T prog w es t ks
variable {v:d5} {es:Array (Int×d5)}
section
variable [DecidableEq κ] {T:KP κ}
theorem SetG.mem {ks:List κ} (h:SetG T prog w es t ks) {x:κ}:x∈ks↔∃ e∈es.toList,(T.kd prog w).is x e.2=true:=by
 rw [<-h.perm.mem_iff,aF];constructor;·rintro ⟨e,i,z⟩;obtain ⟨⟨k,a,_⟩,_⟩:=h.el e i;rw [T.ofi a] at z;exact ⟨e,i,z ▸ a⟩
 ·rintro ⟨e,i,z⟩;exact ⟨e,i,T.ofi z⟩
theorem SetG.size {ks:List κ} (h:SetG T prog w es t ks):es.size=ks.length:=by have e:=h.perm.length_eq;simpa using e
theorem Ys {es':Array (Int×d5)} {p:Nat} {t':g7} (s:h.get? a=d4 (ya es p t)):(h.update a (dN es' t')).get? a=d4 (ya es' (p+1) t'):=by have e:=Heap.get?_update_self (dN es' t') s (by rw [putSet_of (o:=ya es p t) es' t' rfl]; rfl);rw [putSet_of (o:=ya es p t) es' t' rfl] at e;exact e
theorem SetG.more {e:Array (Int×d5)} {f:g7} {ks:List κ} {x:κ} (h:SetG T prog w es t ks) (c:(T.kd prog w).is x v=d8) (nx:x∉ks) (r:ks.length+1 < fV)
  (hp:e.toList.Perm (es.toList++[((T.kd prog w).hash x,v)])) (d:f.fits e.size=d8) (hl:f.led=t.led) (hq:T.pb=d8->f.plain=d7):SetG T prog w e f (uh ks x):=by
 have ex:uh ks x=ks++[x]:=Ab nx;have C:e.size=ks.length+1:=by rw [<-bL,hp.length_eq,ai,bL,h.size];rfl
 rw [ex];refine ⟨(h.el.push c (T.sc c)).perm hp,?_,?_,?_,d,hl.trans h.led,λb _=>hq b⟩;·refine (hp.map _).trans ?_;rw [List.map_append,List.map_singleton,T.ofi c];exact h.perm.append (List.Perm.refl _)
 ·exact List.nodup_append.mpr ⟨h.nd,by simp,λa i b g=>by rw [bg.mp g]; exact λz=>nx (z ▸ i)⟩
 ·rw [C];exact r
theorem XF {ks:List κ} {x:κ} {Q:Bool->d9->Prop} (m:(T.kd prog w).is x v=d8) (U:SetK T prog w s.heap a ks) (J:ks.length+1 < fV)
  (h:∀ h' b,bB a s.heap h'->SetK T prog w h' a (uh ks x)->Q b { s with heap:=h' }):ez (model prog w) A (setAddHashed a v ((T.kd prog w).hash x)) Q E s:=by
 obtain ⟨es,S,t,o,d⟩:=U;unfold setAddHashed setAddHashedIn;refine g8 (ej (wpAny_setState_of o rfl d.fits ?_));dsimp only;rw [byScan_of (T.sc m) d.bd d.el,Aa rfl];unfold setAddByScan;refine ej (ej (iC (ej (wpAny_setScan_of m o rfl d.fits d.el ?_))));cases hq:es.toList.findIdx? (λe=>(T.kd prog w).is x e.2) with
 | some j=>obtain ⟨N,hp,_⟩:=List.findIdx?_eq_some_iff_getElem.mp hq;have hx:x∈ks:=d.mem.mpr ⟨_,dr N,hp⟩;have q:=h s.heap d7 (Heap.SameBut.refl a s.heap) ⟨es,S,t,o,by rw [show uh ks x=ks from Aa hx]; exact d⟩;dsimp only;exact et (et q)
 | none=>
  have hx:x∉ks:=λz=>by obtain ⟨e,O,q⟩:=d.mem.mp z;have:=List.findIdx?_eq_none_iff.mp hq e O;rw [q] at this;cases this
  dsimp only;have hp:=layNew_perm t es ((T.kd prog w).hash x) v;have n:=layNew_fits t es ((T.kd prog w).hash x) v;have hl:=XD t es ((T.kd prog w).hash x) v;generalize layNew t es ((T.kd prog w).hash x) v=L at hp n hl ⊢;obtain ⟨c,u,M,V⟩:=L;dsimp only at hp n hl ⊢;rw [Array.toList_push] at hp;have l:∀ f:g7,f.fits c.size=d8->f.led=t.led->(T.pb=d8->f.plain=d7)->ez (model prog w) A (do
    storeSet a c f
    if (!M&&f.tooFull)=d8 then do
      (match (hJ f c (bR c.size)).2.2 with | true=>rule "set.scan.the-table-gave-way" | false=>pure ())
      storeSet a (hJ f c (bR c.size)).1 (hJ f c (bR c.size)).2.1
      pure (d4 d8)
     else pure (d4 d8)) (λr s'=>∃ h',s'={ s with heap:=h' }/\r=d4 d8/\bB a s.heap h'/\SetK T prog w h' a (uh ks x)) E s:=by
   intro f f2 I p2;have d2:=d.more m hx J hp f2 I p2;refine ej (wpAny_storeSet_of o rfl ?_ (fits_of_scanBound d2.bd));have i:=Ys (es':=c) (t':=f) o;have y:=Heap.SameBut.update s.heap a (dN c f);split
   ·have C:=relayAll_perm f c (bR c.size);have D:=relayAll_fits f c (bR c.size);have B:=gD f c (bR c.size);generalize hJ f c (bR c.size)=R at C D B ⊢;obtain ⟨p,H,Y⟩:=R;dsimp only at C D B ⊢;have K:=d.more m hx J (C.trans hp) D (B.1.trans I) (λb=>B.2 (p2 b));refine ej ?_;have go:ez (model prog w) A (storeSet a p H >>= λ_=>pure (d4 d8)) (λr s'=>∃ h',s'={ s with heap:=h' }/\r=d4 d8/\bB a s.heap h'/\SetK T prog w h' a (uh ks x)) E { s with heap:=s.heap.update a (dN c f) }:=
     ej (wpAny_storeSet_of i rfl (et ⟨_,rfl,rfl,y.trans (Heap.SameBut.update _ a _),p,_,H,Ys i,K⟩) (fits_of_scanBound K.bd))
    cases Y;·exact et go
    ·exact iC go
   ·exact et ⟨_,rfl,rfl,y,c,_,f,i,d2⟩
  have fin:∀ (r:Option Bool) (s':d9),(∃ h',s'={ s with heap:=h' }/\r=d4 d8/\bB a s.heap h'/\SetK T prog w h' a (uh ks x)) ->ez (model prog w) A (match r with | some k=>pure k | none=>setAddHashedIn a v ((T.kd prog w).hash x) 99999) Q E s':=by rintro r s' ⟨h',rfl,rfl,y,U⟩;exact et (h h' d8 y U)
  have P:∀ (b:Bool) {g:d9} {G:Unit->d9->Prop},G () g->ez (model prog w) A (match b with | true=>rule "set.scan.the-table-gave-way" | false=>pure ()) G E g:=λb g G q=>by
   cases b;·exact et q
   ·exact iC q
  refine ej (P _ ?_);cases e1:u.plain with
  | true=>rw [Aa rfl,hashByValue_scannable 8 (T.sc m)];refine ej (et ?_);exact fI (l (if plainKind v=d8 then u else { u with plain:=d7 }) (by split; exact n; exact SetTable.fits_plain_off n) (by split <;> exact hl) (λb=>by rw [T.pl m b]; rfl)) fin λ_ _ z=>z
  | false=>rw [Ab (by simp)];refine ej (et ?_);exact fI (l u n hl λ_=>e1) fin λ_ _ z=>z
end
theorem Ux [DecidableEq κ] (ks:List κ) (x:κ):(uh ks x).length<=ks.length+1:=by
 unfold uh;split
 ·lia
 ·rw [ai];exact ao _
theorem zv [DecidableEq κ]:∀ (l ks:List κ),(l.foldl uh ks).length<=ks.length+l.length
 | [],ks=>ao _
 | x::l,ks=>by
  have h1:=zv l (uh ks x);have h2:=Ux ks x;rw [dB,aw]
  lia
theorem GL:(uh:List Str->Str->List Str)=gb:=by funext ks x;unfold uh gb;congr
theorem SetK.at [DecidableEq κ] {T:KP κ} {ks:List κ} (U:SetK T prog w h a ks) (k:∀ o,h.get? a=d4 o->h'.get? a=d4 o):SetK T prog w h' a ks:=
 let ⟨es,e,t,s,d⟩:=U; ⟨es,e,t,k _ s,d⟩
section
variable [DecidableEq κ] {T:KP κ} {R:Result->d9->Prop} {I:Addr} {fp wr:List Addr} {P:Nat->d5->Prop} {St:Nat->d9->Prop}
theorem Uy {G:Array ij->Array ij->Prop} (W:WalksS prog w A.in1 I fp wr G n P St) (S:Addr) (j:S∉fp) (ss:List κ) (J:ss.length=n) (H:∀ i v,P i v->∃ x,ss[i]?=d4 x/\(T.kd prog w).is x v=d8) (d:n+1 < fV):∀ (k i:Nat) (s:d9),n - i=k->i<=n->St i s->SetK T prog w s.heap S ((ss.take i).foldl uh []) ->(∀ s',Moved (S::wr) G s s'->SetK T prog w s'.heap S (ss.foldl uh [])->R (.ok (.ret .none)) s')->fE (model prog w) A (.builtin "set.update.loop" ⟨[.ref S,.ref I],[]⟩) R s:=by
 have D:S∉wr:=λh=>j (W.sub _ h);have up:∀ b∈wr,b∈S::wr:=λb d=>ac _ d;intro k
 induction k with
 | zero=>
  intro i s q hi t U B;have u:i=n:=by lia
  subst u;refine fR F.entry_set_update_loop ?_;rw [cR cy _]; show ez _ A.in1 (pyNext (.ref I) >>= _) _ _ s;refine ej (W.done s _ _ t λs' f=>et (B s' (f.mono up) ?_));rw [List.take_of_length_le (dP J)] at U;exact U.at λo e=>f.heap S o D e
 | succ k E=>
  intro i s q hi t U B;have g:i < n:=by lia
  refine fR F.entry_set_update_loop ?_;rw [cR cy _]; show ez _ A.in1 (pyNext (.ref I) >>= _) _ _ s;refine ej (W.item i s _ _ g t λv s' K a f=>?_);obtain ⟨x,hx,q⟩:=H i v K;have y:SetK T prog w s'.heap S ((ss.take i).foldl uh []):=U.at λo e=>f.heap S o D e;show ez _ A.in1 (holding [v] (setAdd S v) >>= _) _ _ s';refine ej (g8 ?_);unfold setAdd;refine g8 (ej ((T.kd prog w).pyHash q ?_));have m:((ss.take i).foldl uh []).length+1 < fV:=by
   have h1:=zv (ss.take i) [];rw [cf,aX] at h1
   lia
  refine XF (s:={ s' with toks:=s'.toks+1 }) q y m λh' b C l=>?_;have L:uh ((ss.take i).foldl uh []) x=(ss.take (i+1)).foldl uh []:=by rw [List.take_add_one,hx,List.foldl_append];rfl
  rw [L] at l;refine et ⟨plainId_quiet cy _,E (i+1) _ (by lia) g (W.frame _ s' _ _ a (dX _) λb d o e=>?_) l λr c p=>?_⟩;·rw [C.2 b λz:b=S=>j (z ▸ d)];exact e
  ·refine B r (Moved.trans W.gtrans ((f.mono up).then_heap (dX _) λb o d e=>?_) c) p;rw [C.2 b λz:b=S=>d (z ▸ aI)];exact e
end
section
variable [DecidableEq κ] {T:KP κ}
abbrev GM (w:eI):Obj:=ya #[] 0 (.fresh 0 0 (!(w.params.followText "set-order")))
theorem Vm (e:h.get? a=d4 (GM w)):SetK T prog w h a []:=
 ⟨_,_,_,e,⟨λe i=>by simp at i,by simp,da,by decide,by rfl,rfl,λ_ z=>absurd rfl z⟩⟩
theorem XG (a:d5) {Q₁:d5->d9->Prop} (h:Q₁ (.ref s.heap.objs.size) { s with heap:=s.heap.push (GM w) }):fE (model prog w) A (.call (.builtin "set.__new__") ⟨[.type "set",a],[]⟩) (wants Q₁ E) s:=by
 refine codeAny_of_tree ?_; show ez _ A.in1 (do checkBuiltinCall "set.__new__" ⟨[.type "set",a],[]⟩; again (.builtin "set.__new__" ⟨[.type "set",a],[]⟩)) _ _ s;refine ej (wpAny_of_eq (PySem.F.newCall_set_1 a) (et ⟨plainId_quiet PySem.F.plain_set_new _,fR PySem.F.entry_set_new ?_⟩)); rw [cR PySem.F.plain_set_new _];unfold Builtin.«set.__new__» Builtin.Frozenset.newClass; have b:=sub_set_self; obtain ⟨hp,g,d,tk,os⟩:=s; dsimp only; wp_walk
 refine wpAny_askSetting (et ?_); dsimp only; simp only [newObj];exact ej (wpAny_alloc (et (et h)))
theorem gE:isSubtype (.type "tuple") (.type "set")=pure false:=by rw [isSubtype_type]; kernel_rfl
theorem yz:isSubtype (.type "tuple") (.type "frozenset")=pure false:=by rw [isSubtype_type]; kernel_rfl
theorem Uz:∀ sk:SK,isSubtype (.type sk.cl) (.type "set")=pure d7
 | .l=>PySem.F.sub_list_set
 | .t=>gE
theorem gF:∀ sk:SK,isSubtype (.type sk.cl) (.type "frozenset")=pure d7
 | .l=>PySem.F.sub_list_frozenset
 | .t=>yz
theorem GN (b:A.handled=d6) (sk:SK) (it l:Addr) (e:l≠it) (items:Array d5):Walks prog w A it [it,l] [it] items.size (λi v=>items[i]?=d4 v) (λi h=>ItK h it l sk i/\SeqK h l sk items):=by
 cases sk with
 | l=>exact Walks.list b it l e items
 | t=>exact Walks.tuple b it l e items
theorem SeqK.ty:∀ {sk:SK},SeqK s.heap a sk xs->s.TypeIs (.ref a) sk.cl
 | .l,⟨o,e,c,_⟩=>⟨o,e,c⟩
 | .t,⟨o,e,c,_⟩=>⟨o,e,c⟩
theorem qcz {sk:SK} {S l:Addr} {items:Array d5} {ss:List κ} {Q:Unit->d9->Prop} (p:A.handled=d6) (U:SetK T prog w s.heap S []) (hl:SeqK s.heap l sk items) (n:ss.length=items.size) (hi:∀ (i:Nat) (v:d5),items[i]?=d4 v->∃ x,ss[i]?=d4 x/\(T.kd prog w).is x v=d8) (j:items.size+1 < fV) (g:l≠S)
  (h:∀ h' tk,SetK T prog w h' S (ss.foldl uh [])->(∀ b o,b≠S->s.heap.get? b=d4 o->h'.get? b=d4 o)->Q () { s with heap:=h',toks:=tk }) :
  ez (model prog w) A (bz "set.__init__" S (.ref l)) Q E s:=by
 have hT:=hl.ty;unfold bz;refine ej (m:=Builtin.Frozenset.isAnySet _) ?_;unfold Builtin.Frozenset.isAnySet;refine ej (wpAny_isInstance hT (Uz sk) ?_);refine wpAny_isInstance hT (gF sk) ?_;rw [Ab (by decide)];refine ej (wpAny_typeOf hT ?_);rw [Ab (by cases sk <;> decide)];refine ej (qbr hl ?_);have C:s.heap.objs.size≠S:=λz=>by obtain ⟨es,B,t,k,_⟩:=U;exact bG _ (z ▸ am k)
 have f:l≠s.heap.objs.size:=aE hl.lt;refine ej (wpAny_runValue (Uy ((GN (A:=A.in1) p sk _ l f items).toS) S ?_ ss n hi j items.size 0 _ (by lia) (cw _) ⟨.of ⟨_,aq _ rfl,rfl,rfl⟩,hl.at λo e=>ae _ e⟩ ?_ ?_))
 ·intro z;rcases aa.mp z with z | z;·exact C z.symm
  ·exact g (bg.mp z).symm
 ·exact U.at λo e=>ae _ e
 ·intro s' c y;obtain ⟨h',g',d',a,d⟩:=s';have r:g'=s.gens:=c.gens;have u:d'=s.drawn:=c.drawn;have q:d=s.os:=c.os;subst r u q;refine et (h h' a y λb o j e=>c.heap b o ?_ (ae _ e));intro z;rcases aa.mp z with z | z;·exact j z
  ·rw [bg.mp z] at e;exact bG _ (am e)
set_option maxHeartbeats 3200000 in
theorem Vn {l:Addr} {ks:List κ} {Q:d5->d9->Prop}
  (p:∀ (v:eZ) (u:Unit->d9->Prop) (H:d5->d9->Prop),v.handled=A.handled->(∀ h' tk,SetK T prog w h' s.heap.objs.size ks->(∀ b o,s.heap.get? b=d4 o->h'.get? b=d4 o)->u () { s with heap:=h',toks:=tk }) ->ez (model prog w) v (bz "set.__init__" s.heap.objs.size (.ref l)) u H { s with heap:=s.heap.push (GM w) })
  (h:∀ h' tk,SetK T prog w h' s.heap.objs.size ks->(∀ b o,s.heap.get? b=d4 o->h'.get? b=d4 o)->Q (.ref s.heap.objs.size) { s with heap:=h',toks:=tk }) :
  ez (model prog w) A (call (.type "set") [.ref l]) Q E s:=by
 have d:∀ {Q₁:d5->d9->Prop},Q₁ (.ref s.heap.objs.size) { s with heap:=s.heap.push (GM w) }->fE (model prog w) A.in1 (.call (.builtin "set.__new__") ⟨[.type "set",.ref l],[]⟩) (wants Q₁ E) s:=λh=>XG (.ref l) h;unfold GM ya at d p;generalize (!(w.params.followText "set-order"))=led at d p;obtain ⟨c,tl,t⟩:=bh.mro;have m:=bh.made;have q:=bh.sub;refine iA (codeAny_of_tree ?_); show ez _ _ (callAny (.type "set") _) _ _ _;refine et ⟨Code.quiet_builtin _ (by decide +kernel),fR PySem.F.entry_type_call ?_⟩; rw [Around.under_plain (weight_type_call_type "set" [.ref l] []) rfl];have h1:=bh.notType;have h2:=bh.canCreate;have B:=PySem.F.typeCall_set_1 (.ref l);repeat (any_goals (first | assumption | wp_step))
 refine fM (d (Q₁:=λobj g=>obj=.ref s.heap.objs.size/\g={ s with heap:=s.heap.push { cls:=.type "set",dict:=d6,data:=.set #[] 0 (.fresh 0 0 led) } }) ⟨rfl,rfl⟩) λr g k=>?_;cases r with
 | error e=>exact k
 | ok G=>
  cases G with
  | ret obj=>
   obtain ⟨rfl,rfl⟩:=k;have S:(s.heap.push { cls:=.type "set",dict:=d6,data:=.set #[] 0 (.fresh 0 0 led) }).get? s.heap.objs.size=d4 { cls:=.type "set",dict:=d6,data:=.set #[] 0 (.fresh 0 0 led) }:=aq _ rfl;have hT:Shared.TypeIs { s with heap:=s.heap.push { cls:=.type "set",dict:=d6,data:=.set #[] 0 (.fresh 0 0 led) } } (.ref s.heap.objs.size) "set":=⟨_,S,rfl⟩
   have x:=bh.init.lookup;have C:=bh.init.bind (.ref s.heap.objs.size);repeat (any_goals (first | assumption | wp_step))
   refine fM (codeAny_call_builtin (R:=wants (λr f=>r=.none/\∃ h' tk,f={ s with heap:=h',toks:=tk }/\SetK T prog w h' s.heap.objs.size ks/\(∀ b o,s.heap.get? b=d4 o->h'.get? b=d4 o)) E) bh.init.plain PySem.F.entry_set_init (check_set_init_1 hT ?_)) λj f a=>?_
   ·unfold Builtin.«set.__init__» noKeywords;generalize D:bz=U;wp_walk
    subst D;refine p _ _ _ rfl λh' tk y z=>?_;exact et ⟨rfl,h',tk,rfl,y,z⟩
   ·cases j with
    | error e=>exact a
    | ok i=>
     cases i with
     | ret r=>
      obtain ⟨rfl,h',tk,rfl,y,n⟩:=a;repeat (any_goals (first | assumption | wp_step))
      exact h _ _ y n
     | _=>exact a.elim
  | _=>exact k.elim
end
section
variable {z TI TO i1 i2:Addr} {fp1 fp2:List Addr} {n1 n2:Nat} {P1 P2:Nat->d5->Prop} {S1 S2:Nat->Heap->Prop} {a b:d5}
end
noncomputable def zw:List D->Option (List Str)
 | []=>d4 []
 | .str x::l=>(zw l).map (x::·)
 | _::_=>d6
noncomputable def yM:D->Option (List Str)
 | .lst ds=>zw ds
 | .tup ds=>zw ds
 | _=>d6
noncomputable def qaE [DecidableEq κ] (T:KP κ) (P:eH) (w:eI) (p:Addr) (ks:List κ):HO:=.ext λh=>SetK T P w h p ks
theorem XH [DecidableEq κ] {T:KP κ} {p:Addr} {ks:List κ} (x:SetK T P w h p ks):ObjOk P w H h p (qaE T P w p ks):=
 ⟨x,let ⟨_,_,_,e,_⟩:=x; ⟨_,e⟩,λ_ _ a k=>a.at k⟩
structure KD {κ:Type} [DecidableEq κ] (T:KP κ) where
 sqd:D->Option (List κ)
 ok:κ->Prop
 get:∀ {K:Frag} {F:Hp} {dx:D} {ss:List κ},sqd dx=d4 ss->∃ ds,Ua dx=.ok ds/\∀ {vs:List V} {us:List d5},IsL K F vs ds->Vals vs us->us.length=ss.length/\(∀ (i:Nat) (v:d5),us[i]?=d4 v->∃ x,ss[i]?=d4 x/\∀ p w,(T.kd p w).is x v=d8)/\∀ x∈ss,ok x
variable {us:List d5} {ss:List Str}
theorem XI (a:IsL K F vs ds) (l:Vals vs us) (e:zw ds=d4 ss):StrsAre us ss/\∀ x∈ss,x.length<=sizeLine:=by
 induction ds generalizing vs us ss with
 | nil=>cases a;cases l;cases e;exact ⟨.nil,λx h=>nomatch h⟩
 | cons d ds b=>
  cases a with
  | cons i a=>
   cases l with
   | cons r l=>
    cases d with
    | str x=>
     obtain ⟨sl,q,rfl⟩:=aR.mp (show (zw ds).map (x::·)=d4 ss from e);cases i with
     | str C=>obtain ⟨t,rfl⟩:=r;obtain ⟨i1,i2⟩:=b a l q;exact ⟨.cons x t i1,λy D=>(aa.mp D).elim (λz=>z ▸ C) (i2 y)⟩
    | _=>cases e
section
variable {own:List Nat} {e:Expr} {fa:qM} {ma:Mo} {pos:Pos}
theorem Qy (e:zw ds=d4 ss) (l:IsL K F vs ds) (r:Vals vs us):us.length=ss.length/\(∀ (i:Nat) (v:d5),us[i]?=d4 v->∃ x,ss[i]?=d4 x/\∀ p w,(KpS.kd p w).is x v=d8)/\∀ x∈ss,x.length<=sizeLine:=by obtain ⟨st,D⟩:=XI l r e;refine ⟨st.length,λi v h=>?_,D⟩;obtain ⟨y,t,e1,j⟩:=st.item i v h;refine ⟨y,j,λp w=>?_⟩;rw [e1];show dj y (.str y t)=d8;simp [dj]
noncomputable def KdS:KD KpS where
 sqd:=yM
 ok:=λy=>y.length<=sizeLine
 get:=λ{K F dx ss} e=>by
  cases dx with
  | lst ds=>exact ⟨ds,rfl,Qy e⟩
  | tup ds=>exact ⟨ds,rfl,Qy e⟩
  | _=>cases e
theorem GO [DecidableEq κ] {T:KP κ} (U:KD T) (z:C.K=X.K) (m:X.calm=d8):vG X (.type "set") (λxs H Q=>∃ x F dx ss,xs=[x]/\Same F H/\TopIs C.K F H x dx/\U.sqd dx=d4 ss/\ss.length < 4000/\((∀ y∈ss,U.ok y)->∀ p,H p=d6->Q (.ref p) (upd H p (qaE T X.prog X.w p (ss.foldl uh []))))):=by
 intro pins s σ H xs us Q I r h;obtain ⟨x,F,dx,ss,rfl,A,t,es,hl,q⟩:=h;obtain ⟨u,rfl,B⟩:=yZ r;obtain ⟨ds,e,hg⟩:=U.get (K:=C.K) (F:=F) es;obtain ⟨a,sk,vs,rfl,hq,l⟩:=GJ A t e;cases B;rw [z] at hq;obtain ⟨its,o,n,g,d,c,j,hd,E⟩:=GK I hq;obtain ⟨f,hi,D⟩:=hg l g;refine Vn (T:=T) (λM G L hA k=>?_) λh' tk S kp=>⟨.ref s.heap.objs.size,_,I.laid (t':=tk) kp (ao _) (XH S),rfl,q D _ (I.hok.fresh (ao _))⟩
 exact qcz (sk:=sk) (items:=its.toArray) (hA.trans (I.ok.hd m)) (Vm (aq _ rfl)) (.of (ae _ d) hd c) (by simp [f]) (λi v e=>(hi i v (by simpa using e)).imp λx h=>⟨h.1,h.2 _ _⟩) (by rw [ah,f]; unfold fV; lia) (aE (am d)) λh' tk S kp=>k h' tk S λb o J=>kp b o (aE (am J)) (ae _ J)
theorem XJ [DecidableEq κ] {T:KP κ}:vG X (.builtin "len") (λxs H Q=>∃ a ks,xs=[.ref a]/\H a=d4 (qaE T X.prog X.w a ks)/\Q (.int ks.length) H):=by intro pins s σ H xs us Q I r h;obtain ⟨a,ks,rfl,g,q⟩:=h;obtain ⟨u,rfl,B⟩:=yZ r;cases B;obtain ⟨es,e,t,o,d⟩:SetK T X.prog X.w s.heap a ks:=(I.hok a _ g).1;have b:=d.bd;refine call_len_set o ⟨rfl,rfl,rfl⟩ rfl d.fits (by unfold fV at b; lia) ?_;exact ⟨.int ks.length,H,I.tok _,⟨_,by rw [d.size]⟩,q⟩
theorem gG {m:Mo} {f:qM} {Q R:VK} (h:tE C own m f σ H Q) (i:∀ v H1,Q v H1->R v H1):tE C own m f σ H R:=by
 obtain ⟨F,ρ,r,po⟩:=h;refine ⟨F,ρ,r,?_⟩;cases q:f ρ with
 | ok p=>rw [q] at po;obtain ⟨d,ρ1⟩:=p;exact λv F1 H1 a b c=>i _ _ (po v F1 H1 a b c)
 | exc c ρ1=>rw [q] at po;exact po
 | bad=>rw [q] at po;exact po.elim
noncomputable def wT (d:D):Out D:=match yM d with
 | some ss=>if ss.length < 4000 then .ok (.int (ss.foldl gb []).length) else .bad
 | none=>.bad
noncomputable def qaF [DecidableEq κ] {T:KP κ} (U:KD T) (add:List κ->κ->List κ) (d:D):Out D:=match U.sqd d with
 | some ss=>if ss.length < 4000 then .ok (.int (ss.foldl add []).length) else .bad
 | none=>.bad
theorem Jt [DecidableEq κ] {T:KP κ} (U:KD T) {p p2 a:Pos} (n:C.K=X.K) (g:X.calm=d8) (hg:Gl X "len") (m:X.mg "len"=d6) (v:eG "len"=d4 (.builtin "len")) (f:Gl X "set") (d:X.mg "set"=d6) (c:eG "set"=d4 (.type "set")) (j:PE X e (tE C own ma fa))
  (i:eh [e] X.env=[(d7,eval e X.env)]:=by exact qJ rfl) (b:eh [.Call (.Name "set" p2) [e] [] a] X.env=[(d7,eval (.Call (.Name "set" p2) [e] [] a) X.env)]:=by exact qJ rfl) :
  PE X (.Call (.Name "len" p) [.Call (.Name "set" p2) [e] [] a] [] pos) (tE C own .sh (d1 (qaF U uh) fa)):=by
 refine jd (vw (XJ (T:=T)) hg m v (qF (wc (GO U n g) f d c (qF j jw i) (by decide) (by decide) (by rw [i]; rfl) rfl) jw b) (by decide) (by decide) (by rw [b]; rfl) rfl) λσ H Q h=>?_;refine gG (xc (ma:=ma) h) λx H1 ⟨k,F,dx,ex,A,t,po⟩=>?_;cases ex;unfold qaF at po;cases es:U.sqd dx with
 | none=>rw [es] at po;exact po.elim
 | some ss=>
  rw [es] at po;have po:PoV C .sh F H1 (if ss.length < 4000 then .ok (.int (ss.foldl uh []).length) else .bad) Q:=po;by_cases hl:ss.length < 4000;·rw [Aa hl] at po;refine ⟨x,F,dx,ss,rfl,A,t,es,hl,λD q hq=>⟨q,_,rfl,ql,?_⟩⟩;obtain ⟨s1,l,f1⟩:=wQ (u:=qaE T X.prog X.w q (ss.foldl uh [])) A hq;exact po _ _ _ s1 l (.int _)
  ·rw [Ab hl] at po;exact po.elim
theorem Vo {p p2 a:Pos} (n:C.K=X.K) (g:X.calm=d8) (hg:Gl X "len") (m:X.mg "len"=d6) (v:eG "len"=d4 (.builtin "len")) (f:Gl X "set") (h:X.mg "set"=d6) (c:eG "set"=d4 (.type "set")) (j:PE X e (tE C own ma fa))
  (i:eh [e] X.env=[(d7,eval e X.env)]:=by exact qJ rfl) (b:eh [.Call (.Name "set" p2) [e] [] a] X.env=[(d7,eval (.Call (.Name "set" p2) [e] [] a) X.env)]:=by exact qJ rfl) :
  PE X (.Call (.Name "len" p) [.Call (.Name "set" p2) [e] [] a] [] pos) (tE C own .sh (d1 wT fa)):=by
 rw [show wT=qaF KdS uh by rw [GL];funext d;have q:KdS.sqd d=yM d:=rfl;unfold wT qaF;rw [q];cases yM d <;> rfl];exact Jt KdS n g hg m v f h c j i b
end
variable {α β:Type}
@[simp] theorem Ju {a:α} {k:α->Out β}:(Out.ok a).bind k=k a:=rfl
@[simp] theorem qbX {c:Str} {o:Sl} {k:α->Out β}:(Out.exc c o:Out α).bind k=.exc c o:=rfl
@[simp] theorem qbY {k:α->Out β}:(Out.bad:Out α).bind k=.bad:=rfl
@[simp] theorem qcA {a:α}:(Out.ok a).plain=.ok a:=rfl
@[simp] theorem qbZ:(Out.bad:Out α).plain=.bad:=rfl
variable {c:Prop}
@[simp] theorem qb0 [Decidable c] {a b:Out α} {k:α->Out β}:(if c then a else b).bind k=if c then a.bind k else b.bind k:=by split <;> rfl
@[simp] theorem qb1 [Decidable c] {a b:Out α}:(if c then a else b).plain=if c then a.plain else b.plain:=by split <;> rfl
noncomputable def UA (d:D) (A B:Out α):Out α:=match d with
 | .bl b=>if b=d8 then A else B
 | _=>.bad
variable {b:Bool}
@[simp] theorem qaG {A B:Out α}:UA (.bl b) A B=if b=d8 then A else B:=rfl
noncomputable def qb2 (p:D×Sl):Out (Bool×Sl):=match p.1 with
 | .bl b=>.ok (b,p.2)
 | _=>.bad
variable {ρ:Sl}
@[simp] theorem qbt:qb2 (.bl b,ρ)=.ok (b,ρ):=rfl
noncomputable def Ws (ms:List PM):Out (Fl×Sl)->Out (D×List D)
 | .ok (.nx,ρ)=>.ok (.non,jh ρ 0 ms)
 | .ok (.rt d,ρ)=>.ok (d,jh ρ 0 ms)
 | .ok _=>.bad
 | .exc c ρ=>.exc c ((jh ρ 0 ms).map d4)
 | .bad=>.bad
variable {ms:List PM}
theorem qr {f:qP}:jA N ms f ds=Ws ms (f (qf N ds)):=by unfold jA Ws;rfl
@[simp] theorem qb3:Ws ms (.ok (.rt d,ρ))=.ok (d,jh ρ 0 ms):=rfl
@[simp] theorem qb4:Ws ms (.ok (.nx,ρ))=.ok (.non,jh ρ 0 ms):=rfl
@[simp] theorem qbu {c:Str}:Ws ms (.exc c ρ)=.exc c ((jh ρ 0 ms).map d4):=rfl
@[simp] theorem qbv [Decidable c] {a b:Out (Fl×Sl)}:Ws ms (if c then a else b)=if c then Ws ms a else Ws ms b:=by split <;> rfl
noncomputable def Jv (as:List AK) (ρ:Sl):Out (D×List D)->za
 | .ok q=>.ok (q.1,uG as q.2 ρ)
 | .exc c o=>.exc c (uG as (o.map (·.getD .non)) ρ)
 | .bad=>.bad
variable {as:List AK}
@[simp] theorem qaH {q:D×List D}:Jv as ρ (.ok q)=.ok (q.1,uG as q.2 ρ):=rfl
@[simp] theorem GP {c:Str} {o:Sl}:Jv as ρ (.exc c o)=.exc c (uG as (o.map (·.getD .non)) ρ):=rfl
@[simp] theorem GQ [Decidable c] {a b:Out (D×List D)}:Jv as ρ (if c then a else b)=if c then Jv as ρ a else Jv as ρ b:=by split <;> rfl
variable {ρ:Sl}
@[simp] theorem Vp:qd i ρ=match ρ[i]? with | some (d4 d)=>.ok (d,ρ) | _=>.bad:=rfl
@[simp] theorem GR:dC d ρ=.ok (d,ρ):=rfl
variable {gg:D->Sl->Out Sl}
section
variable {g g':D->D->Out D} {g1:D->Out D} {fa fb fc f:qM} {ft fu:uE} {fr:kP} {fs ft1:qP} {fi:kP} {G:je}
@[simp] theorem qbw:d1 g1 fa ρ=(fa ρ).bind λp=>(g1 p.1).plain.bind λd=>.ok (d,p.2):=rfl
@[simp] theorem UB:d2 g fa fb ρ=(fa ρ).bind λp=>(fb p.2).bind λq=>(g p.1 q.1).plain.bind λd=>.ok (d,q.2):=rfl
@[simp] theorem qbx:yF f ρ=(f ρ).bind λp=>(JL p.1).bind λb=>.ok (b,p.2):=rfl
@[simp] theorem UC:jp f ρ=(f ρ).bind qb2:=rfl
@[simp] theorem qby:yt ft ρ=(ft ρ).bind λp=>.ok (!p.1,p.2):=rfl
@[simp] theorem qaI:qbp f ρ=(jp f ρ).bind λp=>.ok (.bl (!p.1),p.2):=rfl
@[simp] theorem qbz:qcu ft fu ρ=(ft ρ).bind λp=>if p.1=d8 then fu p.2 else .ok (d7,p.2):=rfl
@[simp] theorem qb5:dOr ft fu ρ=(ft ρ).bind λp=>if p.1=d8 then .ok (d8,p.2) else fu p.2:=rfl
@[simp] theorem qaJ:Ji fa fb ρ=(fa ρ).bind λp=>UA p.1 (fb p.2) (.ok (.bl d7,p.2)):=by
 unfold Ji;cases fa ρ with
 | ok p=>
  obtain ⟨d,r⟩:=p;cases d <;> try rfl
  rename_i b;cases b <;> rfl
 | exc c o=>rfl
 | bad=>rfl
@[simp] theorem qbA:qbT fa fb ρ=(fa ρ).bind λp=>UA p.1 (.ok (.bl d8,p.2)) (fb p.2):=by
 unfold qbT;cases fa ρ with
 | ok p=>
  obtain ⟨d,r⟩:=p;cases d <;> try rfl
  rename_i b;cases b <;> rfl
 | exc c o=>rfl
 | bad=>rfl
@[simp] theorem qb6:dIf ft fa fb ρ=(ft ρ).bind λp=>if p.1=d8 then fa p.2 else fb p.2:=rfl
@[simp] theorem GS:jN g g' fa fb fc ρ=(fa ρ).bind λp=>(fb p.2).bind λq=>(g p.1 q.1).plain.bind λz=>UA z ((fc q.2).bind λr=>(g' q.1 r.1).plain.bind λd=>.ok (d,r.2)) (.ok (.bl d7,q.2)):=by
 unfold jN;congr 1;funext p;congr 1;funext q;congr 1;funext z;cases z <;> try rfl
 rename_i b;cases b <;> rfl
@[simp] theorem Vq:qB ρ=.ok ([],ρ):=rfl
@[simp] theorem Qz:qb fa fr ρ=(fa ρ).bind λp=>(fr p.2).bind λq=>.ok (p.1::q.1,q.2):=rfl
@[simp] theorem QA:kt fr ρ=(fr ρ).bind λq=>.ok (D.non::q.1,q.2):=rfl
@[simp] theorem Vr:gq fr ρ=(fr ρ).bind λp=>if p.1.length<=sizeLine then .ok (.tup p.1,p.2) else .bad:=rfl
@[simp] theorem XM:yu fr ρ=(fr ρ).bind λp=>if p.1.length<=sizeLine then .ok (.lst p.1,p.2) else .bad:=rfl
@[simp] theorem qaK:jq ρ=.ok (.nx,ρ):=rfl
@[simp] theorem Vs:jl fs ft1 ρ=(fs ρ).bind λp=>match p.1 with | .nx=>ft1 p.2 | _=>.ok p:=by
 show _=_;unfold jl;cases fs ρ with
 | ok p=>obtain ⟨l,r⟩:=p; cases l <;> rfl
 | exc c o=>rfl
 | bad=>rfl
@[simp] theorem Yt:sIf ft fs ft1 ρ=(ft ρ).bind λp=>if p.1=d8 then fs p.2 else ft1 p.2:=rfl
@[simp] theorem qaL:wl f ρ=(f ρ).bind λp=>.ok (.nx,p.2):=rfl
@[simp] theorem Vt:jI f ρ=(f ρ).bind λp=>.ok (.rt p.1,p.2):=rfl
@[simp] theorem Vu:vR i f ρ=(f ρ).bind λp=>if i < p.2.length then .ok (.nx,p.2.set i (d4 p.1)) else .bad:=rfl
@[simp] theorem QB:qw as G fr ρ=(fr ρ).bind λp=>match jB as p.1 p.2 with | some ds=>Jv as p.2 (G ds) | none=>.bad:=rfl
@[simp] theorem qbB:qcv f ρ=(f ρ).bind λp=>(Ua p.1).bind λds=>.ok (ds,p.2):=rfl
@[simp] theorem qbC:uy f ρ=(f ρ).bind λp=>(jR p.1).bind λds=>.ok (ds,p.2):=rfl
@[simp] theorem qb7:gNm i d ρ=if i < ρ.length then .ok (ρ.set i (d4 d)) else .bad:=rfl
@[simp] theorem qbD:Zx fi gg fs ρ=(fi ρ).bind λp=>yw gg fs p.1 p.2:=rfl
@[simp] theorem qbE:qcw f gg ρ=(f ρ).bind λp=>match gg p.1 p.2 with | .ok ρ'=>.ok (.nx,ρ') | _=>.bad:=rfl
@[simp] theorem qbF {gg:List D->D->Out (List D)}:Vf i gg f ρ=if yx ρ[i]?=d8 then (f ρ).bind λp=>(match p.2[i]? with | some (d4 (.lst xs))=>(match gg xs p.1 with | .ok ys=>.ok (.non,p.2.set i (d4 (.lst ys))) | _=>.bad) | _=>.bad) else .bad:=rfl
@[simp] theorem qb8:ftT ρ=.ok (d8,ρ):=rfl
end
end L2.D2
namespace L2.D2
open PySem PySem.Spec PyProof.Rows
def qbP (i j:Int):Prop:=(0<=j/\j<=64)/\-4611686018427387904 < i/\i < 4611686018427387904
instance:∀ i j,Decidable (qbP i j):=λi j=>inferInstanceAs (Decidable (_/\_))
noncomputable def dM (k:D->Bool) (g:D->D->Out D) (fo fa:qM):qM:=λρ=>(fo ρ).bind λp=>if k p.1 then (fa p.2).bind λq=>(g p.1 q.1).plain.bind λd=>.ok (d,q.2) else .bad
variable {X:Cx} {C:Ct} {own:List Nat} {m ma mb:Mo} {pos:Pos} {σ:St} {F H:Hp} {Q:VK}
section
variable {a b:Expr} {fa fb:qM}
theorem Po.imp {r:za} {R:VK} (h:Po C own m σ F H r Q) (i:∀ v H',Q v H'->R v H'):Po C own m σ F H r R:=by
 cases r with
 | ok p=>exact λv F' H' a c mo=>i v H' (h v F' H' a c mo)
 | exc x=>exact h
 | bad=>exact h.elim
theorem XN {k:D->Bool} {g:D->D->Out D} (f:ma≠.any) (h:tE C own m (dM k g fa fb) σ H Q):tE C own ma fa σ H λx H1=>(∃ F dx,Same F H1/\TopIs C.K F H1 x dx/\k dx=d8)/\tE C own mb fb σ H1 λy H2=>∃ F dx j,Same F H2/\TopIs C.K F H2 x dx/\TopIs C.K F H2 y j/\PoV C m F H2 (g dx j) Q:=by
 obtain ⟨F,ρ,p,h⟩:=h;refine ⟨F,ρ,p,Po.bind h λv F1 H1 d ρ1 a o c h1=>?_⟩;cases i:k d with
 | false=>simp only [i] at h1; exact h1.elim
 | true=>simp only [i,if_true] at h1;exact ⟨⟨F1,d,a.sub,c.top,i⟩,F1,ρ1,a,Po.bind h1 λw n H2 e l r c2 b h2=>⟨n,d,e,r.sub,(c.grow f c2 λx z=>(p.OA_there z).1).top,b.top,PoV.of r h2⟩⟩
def MtD (X:Cx) (C:Ct) (m:Mo) (id:String) (g:D->D->Out D):Prop:=
 MtR X id (λx vs H Q=>∃ y F dx d,vs=[y]/\Same F H/\TopIs C.K F H x dx/\TopIs C.K F H y d/\PoV C m F H (g dx d) Q)
end
theorem Vv {pins:Pns} {s:d9} (I:Inv X pins σ H s) (A:Same F H) {n:Nat} {e:D}:∀ {vs:List V} {ds:List D} {us:List d5} {b:Bool},IsL X.K F vs ds->Vals vs us->zf n e ds=d4 b ->us.map (Wr X F n e)=ds.map λd=>eqN n d e == d4 d8
 | _,_,_,b,.nil,.nil,h=>rfl
 | _,_,_,b,.cons i t,.cons r rs,h=>by obtain ⟨a,c,q,f,rfl⟩:=zg h;rw [aJ,aJ,Vv I A t rs f,KC I A i r q,q];cases a <;> rfl
noncomputable def GT (ca:Str->Addr):List Str->kP
 | []=>qB
 | x::l=>qb (dC (.raw (.ref (ca x)))) (GT ca l)
theorem Vw (ca:Str->Addr) (ρ:Sl):∀ l:List Str,GT ca l ρ=.ok (l.map λx=>D.raw (.ref (ca x)),ρ)
 | []=>rfl
 | x::l=>by unfold GT qb dC;rw [Out.og,Vw ca ρ l];rfl
variable {α:Type}
theorem XO {β:Type} (f:α->β) (xs:List α) (i:Int):atI (xs.map f) i=(atI xs i).map f:=by
 unfold atI ixN;rw [ay];split;·split <;> simp
 ·split <;> simp
noncomputable def vW (as:List AK) (fi:qM) (gs:List (je)) (fr:kP):qM:=λρ=>(fi ρ).bind λp=>match p.1 with
 | .int i=>match atI gs i with
  | some G=>qw as G fr p.2
  | none=>.bad
 | _=>.bad
def DsOk (P:eH) (w:eI) (K:Frag) (mg:Str->Option d5) (base:Heap) (cv:Str->d5) (j:Nat) (ms:List PM) (mr:Mo):List Str->List (je)->Prop
 | [],[]=>True
 | x::l,G::gs=>(∃ ps,DefOk P w K mg base cv j x ps ms mr G)/\DsOk P w K mg base cv j ms mr l gs
 | _,_=>False
variable {P:eH} {w:eI} {K:Frag} {mg:Str->Option d5} {base:Heap} {cv:Str->d5} {j:Nat} {ms:List PM} {mr:Mo}
theorem DsOk.len:∀ {l:List Str} {gs:List (je)},DsOk P w K mg base cv j ms mr l gs->l.length=gs.length
 | [],[],_=>rfl
 | _::_,_::_,h=>congrArg (·+1) h.2.len
 | [],_::_,h=>h.elim
 | _::_,[],h=>h.elim
theorem DsOk.get:∀ {l:List Str} {gs:List (je)},DsOk P w K mg base cv j ms mr l gs->∀ (n:Nat) (G:je),gs[n]?=d4 G->∃ x ps,l[n]?=d4 x/\DefOk P w K mg base cv j x ps ms mr G
 | [],[],_,n,G,e=>by simp at e
 | x::_,_::_,h,0,G,e=>by simp at e;subst e;obtain ⟨ps,q⟩:=h.1;exact ⟨x,ps,rfl,q⟩
 | _::_,_::_,h,n+1,G,e=>h.2.get n G (by simpa using e)
 | [],_::_,h,_,_,_=>h.elim
 | _::_,[],h,_,_,_=>h.elim
theorem GU {xs:List α} {i:Int} {d:α} (h:atI xs i=d4 d):∃ n:Nat,xs[n]?=d4 d/\∀ {β:Type} (ys:List β),ys.length=xs.length->atI ys i=ys[n]?:=by
 unfold atI at h;cases q:ixN xs.length i with
 | none=>rw [q] at h; cases h
 | some n=>rw [q] at h;refine ⟨n,h,λys hl=>?_⟩;unfold atI;rw [hl,q];rfl
variable {e:Expr}
section
variable {as:List AK} {fr:kP} {es:List Expr} {x:Str} {p:Pos} {k:Nat} {fi:qM} {ca:Str->Addr} {ns:List Str} {gs:List (je)} {v sl:Expr}
theorem xl {a:Addr} (c:X.mg x=d4 (.ref a)) (hg:Gl X x) (hd:Dbg x:=by decide):PE X (.Name x pos) (tE C own .sh (dC (.raw (.ref a)))):=Kt (v:=.ref a) hg c rfl (λ_=>.raw _) hd
theorem QC {env:Env} {args:List Expr} {M:Model} {A:eZ} {E:d5->d9->Prop} {s:d9} {Q:d5->d9->Prop}
  (h:ez M A (eval (.Subscript v sl p) env) (λf d=>ez M A (callWith pos f [] (e9 pos (eh args env)) (fJ pos (fh [] env))) Q E d) E s) :
  ez M A (eval (.Call (.Subscript v sl p) args [] pos) env) Q E s:=by
 have e:eval (.Call (.Subscript v sl p) args [] pos) env=(do
  callWith pos (<-eval (.Subscript v sl p) env) [] (e9 pos (eh args env)) (fJ pos (fh [] env))):=rfl
 rw [e];exact ej h
theorem gH (S:DsOk X.prog X.w X.K X.mg X.base cv j ms mr ns gs) (Z:∀ x∈ns,X.mg x=d4 (.ref (ca x))) (V:ns.length<=sizeLine) (Y:Room k X.A) (hj:j<=k) (hx:jr (CXk X.prog X.w) X C.E)
  (N:PE X (.Subscript v sl p) (tE C own .sh (d2 ixD (yu (GT ca ns)) fi))) (ha:PA X (e::es) (tAr C own as fr)) (J:C.cv=cv:=by rfl) (hK:C.K=X.K:=by rfl) (t:ms=as.map wO:=by rfl) (W:∀ i∈qC as,i∈own:=by decide) (nd:(qC as).Nodup:=by decide) (B:frA as<=1:=by decide) (u:∀ i∈C.ox,i∈own:=by exact jm rfl)
  (he:eh (e::es) X.env=(d7,eval e X.env)::eh es X.env:=by exact qK rfl) (o:(e9 pos (eh es X.env)).any (·.1)=false:=by exact jY rfl) :
  PE X (.Call (.Subscript v sl p) (e::es) [] pos) (tE C own mr (vW as fi gs fr)):=by
 subst t J;refine ⟨?_⟩;intro pins s σ H Q I h;obtain ⟨F,ρ,M,h⟩:=h;have O:yu (GT ca ns) ρ=.ok (.lst (ns.map λx=>.raw (.ref (ca x))),ρ):=by unfold yu;rw [Vw,Out.og,Aa (by rw [ay]; exact V)]
 unfold vW at h;cases q:fi ρ with
 | bad=>rw [q] at h; exact h.elim
 | exc c ρ1=>rw [q] at h;refine QC (thn (N pins s σ H (λ_ _=>False) I ⟨F,ρ,M,?_⟩) λ_ _ ⟨_,_,_,_,z⟩=>z.elim);unfold d2;rw [O,Out.og];show Po C own .sh σ F H ((fi ρ).bind _) _;rw [q];exact h
 | ok U=>
  obtain ⟨d,ρ1⟩:=U;rw [q,Out.og] at h;cases d <;> try exact h.elim
  rename_i i;cases l:atI gs i with
  | none=>simp only [l] at h; exact h.elim
  | some G=>
   simp only [l] at h;obtain ⟨n,h1,h2⟩:=GU l;obtain ⟨x,ps,a,f,fd,FF,g,hk,hb⟩:=S.get n G h1;have m:=Z x (bZ a);obtain rfl:f=ca x:=by rw [m] at g;cases g;rfl
   have L:atI (ns.map λx=>(D.raw (.ref (ca x)))) i=d4 (.raw (.ref (ca x))):=by rw [XO,h2 ns S.len,a];rfl
   refine QC (thn (N pins s σ H (λy H1=>y=.ref (ca x)/\tE C own mr (qw as G fr) σ H1 Q) I ⟨F,ρ,M,?_⟩) λw s1 ⟨y,H1,R,r1,⟨ey,h3⟩⟩=>?_);·unfold d2;rw [O,Out.og];show Po C own .sh σ F H ((fi ρ).bind _) _;rw [q,Out.og];show Po C own .sh σ F H ((ixD (.lst (ns.map λx=>.raw (.ref (ca x)))) (.int i)).plain.bind _) _;unfold ixD;simp only [L];intro y F' H' b c' mo;refine ⟨?_,F',ρ1,b,Po.shift h c'⟩;have mo:Is C.K F' y (.raw (.ref (ca x))):=mo;cases mo;rfl
   ·subst ey;cases r1;have h4:=gu u W nd B h3;refine cu (h₀:=X.base) R.ok.mod.kin hk (thn (ha pos pins s1 σ H1 _ R h4) λus s2 ⟨vs,H2,P,r,T⟩=>⟨P.kIn,?_⟩) he o;exact Ki (FF.mono hj) Y hb .nil hx P r (by rw [<-hK]; exact T)
end
noncomputable def JN:qP:=λ_=>.bad
section
variable {own':List Nat} {sts:List Stmt}
theorem jS:PSs X sts (tSt C own own' JN):=by refine ⟨?_⟩;intro pins s σ H D I h;obtain ⟨_,_,_,h⟩:=h;exact h.elim
end
theorem xm {xs:List V} {us:List d5} (r:Vals xs us):∀ n:Nat,Vals (aj n xs).flatten (aj n us).flatten
 | 0=>.nil
 | n+1=>by rw [bM,bM,bX,bX];exact r.append (xm r n)
theorem gI {vs:List V} {ds:List D} (r:IsL K F vs ds):∀ n:Nat,IsL K F (aj n vs).flatten (aj n ds).flatten
 | 0=>.nil
 | n+1=>by rw [bM,bM,bX,bX];exact r.append (gI r n)
theorem yb (l:List α):∀ n:Nat,(aj n l).flatten.length=l.length * n
 | 0=>by simp
 | n+1=>by rw [bM,bX,ai,yb l n,Nat.mul_succ,Nat.add_comm]
noncomputable def Zy:D->D->Out D
 | .lst ds,.int n=>if (0<=n/\n<=100000)/\ds.length * n.toNat<=1000000 then .ok (.lst (aj n.toNat ds).flatten) else .bad
 | _,_=>.bad
section
theorem Vx (B:C.K=X.K):OpD X C .fr (fq .Mult) Zy:=by
 intro pins s σ H x y v u Q I q m h;obtain ⟨F,dx,D,A,l,ty,po⟩:=h;cases dx <;> try exact po.elim
 cases D <;> try exact po.elim
 rename_i ds n;unfold Zy at po;by_cases z:(0<=n/\n<=100000)/\ds.length * n.toNat<=1000000
 ·simp only [Aa z] at po;obtain ⟨a,xs,rfl,p,i⟩:=l.lst A;obtain rfl:=ty.int;cases q;obtain ⟨t,rfl⟩:=m;rw [B] at p;obtain ⟨its,r,pl,_⟩:=I.list p;have c:its.length=ds.length:=by rw [<-r.length,i.length]
  obtain ⟨⟨cls,d,data,sl⟩,k,f,j,hd,g⟩:=pl;simp only at j hd g;subst j g;have hq:H s.heap.objs.size=none:=I.hok.fresh (ao _);obtain ⟨s2,c2,f2⟩:=wQ (u:=.lst (aj n.toNat xs).flatten) A hq;have w:(aj n.toNat xs).flatten.length<=sizeLine:=by rw [yb,i.length,ff]; lia
  refine wpAny_binaryOp_repeat_ref (T := "list") (U := "int") (by decide) ⟨_,f,rfl⟩ (λs'=>ic s' n t) noFill_list_mul PySem.F.fills_int_mul bU repeat_list PySem.F.slot_int_index.lookup
   (fK bU (ic s n t) PySem.F.entry_int_rmul (PySem.F.args_int_rmul_2 _ _) (lm_int_rmul_list_any n t a its.toArray k d sl)
    ⟨f,rfl,⟨_,f,rfl⟩,fK PySem.F.slot_list_mul ⟨_,f,rfl⟩ PySem.F.entry_list_mul (PySem.F.args_list_mul_2 _ _)
     (lm_list_mul_any a its.toArray k d sl n t (by simp [Builtin.List.listFitsIndex]; lia) (by rw [ah,c]; lia) (by simp [bH,sizeLine]; rw [c]; lia))
     ⟨f,?_⟩⟩)
  refine ⟨.ref s.heap.objs.size,_,I.laid (t':=s.toks) (o:=.lst (aj n.toNat xs).flatten) (λb o e=>ae _ e) (ao _) ⟨w,(aj n.toNat its).flatten,0,xm r _,?_⟩,rfl,po _ _ _ s2 c2 ⟨_,rfl,hq,f2,_,ql,gI i _⟩⟩;rw [listMul_foldl_if];exact aq _ rfl
 ·simp only [Ab z] at po;exact po.elim
end
def GV (i j:Int):Prop:=(-(2 ^ 62)<=i/\i < 2 ^ 62)/\-(2 ^ 62)<=j/\j < 2 ^ 62
instance:∀ i j,Decidable (GV i j):=λi j=>inferInstanceAs (Decidable (_/\_))
variable {lo:Int}
section
variable {a b tg:Expr} {fa fb:qM}
theorem Vy:∀ {xs:List V} {us:List d5},xs.length=us.length->(∀ (j:Nat) (x:V) (u:d5),xs[j]?=d4 x->us[j]?=d4 u->RelV x u)->Vals xs us
 | [],[],_,_=>.nil
 | x::xs,u::us,hl,h=>.cons (h 0 x u rfl rfl) (Vy (Nat.succ.inj hl) λj y w a b=>h (j+1) y w (by simpa using a) (by simpa using b))
 | [],_::_,hl,_=>nomatch hl
 | _::_,[],hl,_=>nomatch hl
noncomputable def qaM (p:Addr) (lo hi:Int):HO:=.ext λh=>∃ t u v,IsRange h p lo hi 1 t u v
theorem XQ {h:Heap} {p:Addr} {hi:Int} {t u v:Tok} (x:IsRange h p lo hi 1 t u v):ObjOk P w H h p (qaM p lo hi):=
 ⟨⟨t,u,v,x⟩,⟨_,x⟩,λ_ _ ⟨t,u,v,x⟩ k=>⟨t,u,v,k _ x⟩⟩
theorem Vz:vG X (.type "range") (λxs H Q=>∃ j:Int,xs=[.int j]/\∀ p,H p=d6->Q (.ref p) (upd H p (qaM p 0 j))):=by intro pins s σ H xs us Q I r h;obtain ⟨j,rfl,q⟩:=h;obtain ⟨u,rfl,B⟩:=yZ r;obtain ⟨t,rfl⟩:=B;exact call_range_1 ⟨.ref s.heap.objs.size,_,I.laid (t':=s.toks+1+1) (λb o e=>ae _ e) (ao _) (XQ (IsRange.new ..)),rfl,q _ (I.hok.fresh (ao _))⟩
theorem UD (d:X.calm=d8):vG X (.type "list") (λxs H Q=>∃ r lo hi,xs=[.ref r]/\H r=d4 (qaM r lo hi)/\(GV lo hi/\hi - lo<=1000000)/\∀ p,H p=d6->Q (.ref p) (upd H p (.lst ((aZ (hi - lo).toNat).map λk=>V.int (lo+(k:Nat)))))):=by
 intro pins s σ H xs us Q I r h;obtain ⟨a,lo,hi,rfl,g,C,q⟩:=h;obtain ⟨u,rfl,B⟩:=yZ r;cases B;obtain ⟨t,u,v,f⟩:=(I.hok a _ g).1;have l:Builtin.Range.rangeSize lo hi 1=(((hi - lo).toNat:Nat):Int):=by rw [rangeSize_one]; split <;> lia
 refine call_list_range (n:=(hi - lo).toNat) (I.ok.hd d) f (small_one C.1.1.1 C.1.1.2 C.1.2.1 C.1.2.2) l (by lia) λh' tk acc c k hp b=>?_;refine ⟨.ref s.heap.objs.size,_,I.laid (t':=tk) (o:=.lst ((aZ (hi - lo).toNat).map λk=>V.int (lo+(k:Nat)))) k (ao _) ⟨by rw [ay,List.length_range,ff]; lia,acc.toList,c,?_,by simpa using hp⟩,rfl,q _ (I.hok.fresh (ao _))⟩;refine Vy (by rw [ay,List.length_range,bL,b.1]) λj x w ex e=>?_;rw [aM] at ex;obtain ⟨k,i,rfl⟩:=aR.mp ex;obtain ⟨G,rfl⟩:=ak.mp i;obtain ⟨t,rfl⟩:=b.2 j w (by simpa using e);exact ⟨t,by simp⟩
noncomputable def wz:D->Out D
 | .int j=>if GV 0 j/\j - 0<=1000000 then .ok (.lst (zZ 0 (j - 0).toNat)) else .bad
 | _=>.bad
theorem VA:∀ l:List Nat,IsL K F (l.map λk=>V.int (lo+(k:Nat))) (l.map λk=>D.int (lo+(k:Nat)))
 | []=>.nil
 | k::l=>.cons (.int _) (VA l)
theorem Jw {p p2 a:Pos} (r:X.calm=d8) (hg:Gl X "list") (o:X.mg "list"=d6) (v:eG "list"=d4 (.type "list")) (i:Gl X "range") (g:X.mg "range"=d6) (f:eG "range"=d4 (.type "range")) (s:PE X e (tE C own ma fa))
  (m:eh [e] X.env=[(d7,eval e X.env)]:=by exact qJ rfl) (c:eh [.Call (.Name "range" p2) [e] [] a] X.env=[(d7,eval (.Call (.Name "range" p2) [e] [] a) X.env)]:=by exact qJ rfl) :
  PE X (.Call (.Name "list" p) [.Call (.Name "range" p2) [e] [] a] [] pos) (tE C own .fr (d1 wz fa)):=by
 refine jd (wc (UD r) hg o v (qF (wc Vz i g f (qF s jw m) (by decide) (by decide) (by rw [m]; rfl) rfl) jw c) (by decide) (by decide) (by rw [c]; rfl) rfl) λσ H Q h=>?_;refine gG (xc (ma:=ma) h) λx H1 ⟨y,F,dx,ex,A,n,po⟩=>?_;cases ex;cases dx <;> try exact po.elim
 rename_i j;unfold wz at po;by_cases d:GV 0 j/\j - 0<=1000000
 ·simp only [Aa d] at po;obtain rfl:=n.int;refine ⟨j,rfl,λq hq=>⟨q,0,j,rfl,ql,d,λl b=>?_⟩⟩;obtain ⟨s1,w,f1⟩:=wQ (u:=qaM q 0 j) A hq;obtain ⟨s2,c2,f2⟩:=wQ (u:=.lst ((aZ (j - 0).toNat).map λk=>V.int (0+(k:Nat)))) s1 b;have t:H1 l=none:=by
   by_cases z:l=q;·rw [z] at b;rw [ql] at b;cases b
   ·rwa [qu z] at b
  exact po _ _ _ s2 (w.trans' c2) ⟨l,rfl,t,f2,_,ql,VA _⟩
 ·simp only [Ab d] at po;exact po.elim
end
mutual
def GW:Nat->Expr->Option D
 | 0,_=>d6
 | n+1,e=>match e with
  | .Constant c _ _=>match c with
   | .none=>d4 .non
   | .bool b=>d4 (.bl b)
   | .int i=>d4 (.int i)
   | .str x=>if x.length<=sizeLine then d4 (.str x) else d6
   | _=>d6
  | .UnaryOp .USub (.Constant (.int i) _ _) _=>d4 (.int (-i))
  | .List es _=>(Zz n es).bind λds=>if ds.length<=sizeLine then d4 (.lst ds) else d6
  | .Tuple es _ _=>(Zz n es).bind λds=>if ds.length<=sizeLine then d4 (.tup ds) else d6
  | _=>d6
def Zz:Nat->List Expr->Option (List D)
 | _,[]=>d4 []
 | 0,_::_=>d6
 | n+1,e::es=>(GW n e).bind λd=>(Zz n es).bind λds=>d4 (d::ds)
end
theorem QD {α:Type}:∀ l:List α,((l.map λ_=>AK.vl).all λa=>decide (a=.vl))=d8
 | []=>rfl
 | _::l=>by rw [aJ,dm,QD l]; rfl
theorem VB {n:Nat} {e:Expr} {d:D} (h:GW n e=d4 d):Kr e=true:=by
 cases n with
 | zero=>cases h
 | succ n=>cases e <;> first | rfl | (simp [GW] at h)
section
variable {X:Cx} {C:Ct} {own:List Nat}
mutual
theorem GX:∀ (n:Nat) {e:Expr} {d:D},GW n e=d4 d->PE X e (tE C own .sh (dC d))
 | 0,_,_,h=>by cases h
 | n+1,e,d,h=>by
  unfold GW at h;split at h
  ·split at h;·cases h; exact vK
   ·cases h; exact yv
   ·cases h; exact qo
   ·split at h;·rename_i z;cases h;exact qU z
    ·cases h
   ·cases h
  ·cases h;exact jd (Ks zo qo) λσ H Q h=>h
  ·obtain ⟨ds,h1,h2⟩:=bv.mp h;split at h2
   ·rename_i z;cases h2;have j:yu (λρ=>.ok (ds,ρ))=dC (.lst ds):=by funext ρ;unfold yu dC;rw [Out.og,Aa z]
    rw [<-j];exact uR (jO (xn n h1) (QD _)) (by decide)
   ·cases h2
  ·obtain ⟨ds,h1,h2⟩:=bv.mp h;split at h2
   ·rename_i z;cases h2;have j:gq (λρ=>.ok (ds,ρ))=dC (.tup ds):=by funext ρ;unfold gq dC;rw [Out.og,Aa z]
    rw [<-j];exact wm (xn n h1) (QD _)
   ·cases h2
  ·cases h
theorem xn:∀ (n:Nat) {es:List Expr} {ds:List D},Zz n es=d4 ds->PA X es (tAr C own (es.map λ_=>.vl) λρ=>.ok (ds,ρ))
 | 0,[],ds,h=>by cases h;exact qc
 | _+1,[],ds,h=>by cases h;exact qc
 | 0,_::_,ds,h=>by cases h
 | n+1,e::es,ds,h=>by unfold Zz at h;obtain ⟨d,h1,h⟩:=bv.mp h;obtain ⟨f,h2,h⟩:=bv.mp h;cases h;have j:qb (dC d) (λρ=>.ok (f,ρ))=λρ=>.ok (d::f,ρ):=rfl;rw [<-j];exact qa (GX n h1) (xn n h2) (by decide) (qK (VB h1))
end
theorem gJ {es:List Expr} {ds:List D} {pos:Pos} (n:Nat) (h:Zz n es=d4 ds):PE X (.List es pos) (tE C own .fr (yu λρ=>.ok (ds,ρ))):=jO (xn n h) (QD _)
end
noncomputable def txI (i:Int):Str:=toString i
def CTx (i:Int):Prop:=i.natAbs.log2 < 1920/\(txI i).length<=sizeLine
instance:∀ i,Decidable (CTx i):=λi=>inferInstanceAs (Decidable (_/\_))
end L2.D2
namespace PySem
open Builtin Builtin.Str
end PySem
namespace L2.D2
open PySem PySem.Spec PyProof.Rows
def qcB (x y:Str):Prop:=(y.length == 0)=d7/\(Txt.split x y).length<=sizeLine/\∀ z∈Txt.split x y,z.length<=sizeLine
instance:∀ x y,Decidable (qcB x y):=λx y=>inferInstanceAs (Decidable (_/\_))
inductive IntsAre:List d5->List Int->Prop
 | nil:IntsAre [] []
 | cons (y:Int) (t:Tok) {vs:List d5} {ys:List Int} (h:IntsAre vs ys):IntsAre (dF y t::vs) (y::ys)
variable {K:Frag} {F H:Hp} {f:Str} {c:Addr}
section
theorem IsF.get {d:D}:∀ {fv:List (Str×V)} {fs:List (Str×D)},IsF K F fv fs->fs.lookup f=d4 d->∃ v,fv.lookup f=d4 v/\Is K F v d
 | _,_,.nil,e=>by cases e
 | _,_,.cons (k:=k) q t,e=>by
  rw [bP] at e ⊢;cases z:f == k with
  | true=>rw [z] at e; cases e; exact ⟨_,rfl,q⟩
  | false=>rw [z] at e; exact IsF.get t e
theorem IsF.non:∀ {fv:List (Str×V)} {fs:List (Str×D)},IsF K F fv fs->fs.lookup f=d6->fv.lookup f=d6
 | _,_,.nil,e=>rfl
 | _,_,.cons (k:=k) q t,e=>by
  rw [bP] at e ⊢;cases z:f == k with
  | true=>rw [z] at e; cases e
  | false=>rw [z] at e; exact IsF.non t e
theorem TopIs.ins {v:V} {fs:List (Str×D)} (s:Same F H) (h:TopIs K F H v (.ins c fs)):∃ a dx fv,v=.ref a/\H a=d4 (.ins c dx fv)/\IsF K F fv fs:=by
 rcases h with h | ⟨a,rfl,dx,fv,e,t⟩
 ·cases h with
  | ins e t=>exact ⟨_,_,_,rfl,s _ _ e,t⟩
 ·exact ⟨a,dx,fv,rfl,e,t⟩
end
noncomputable def qb9 (c:Addr) (f:Str):D->Out D
 | .ins k fs=>if k=c then (match fs.lookup f with | some d=>.ok d | none=>.bad) else .bad
 | _=>.bad
variable {X:Cx} {C:Ct} {own:List Nat} {pos:Pos} {ms:List PM} {x:Str} {ps:List Str} {cv:Str->d5} {mr:Mo}
section
variable {m mo:Mo} {e o:Expr} {es:List Expr} {fa fe fo:qM} {p1 p2:Pos}
theorem GY (p:C.K=X.K) (g:Cls X.K c) (n:Qh X.K c f) (i:PE X e (tE C own m fa)) (j:fg e f X.env (eval e X.env)=eval e X.env:=by rfl):PE X (.Attribute e f pos) (tE C own .sh (d1 (qb9 c f) fa)):=by
 refine jd (ZX i j) λσ H Q h=>gG (gm (ma:=m) h) λx H1 ⟨F,dx,A,b,po⟩=>?_;cases dx with
 | ins k fs=>
  replace po:PoV C .sh F H1 (if k=c then (match fs.lookup f with | some d=>.ok d | none=>.bad) else .bad) Q:=po;by_cases z:k=c
  ·subst z;rw [Aa rfl] at po;cases q:fs.lookup f with
   | none=>rw [q] at po; exact po.elim
   | some d=>rw [q] at po;obtain ⟨a,dx,fv,rfl,o,t⟩:=b.ins A;obtain ⟨v,l,is⟩:=t.get q;exact ⟨a,k,dx,fv,v,rfl,o,g,n,l,po v F H1 A .refl is⟩
  ·rw [Ab z] at po; exact po.elim
 | _=>exact po.elim
noncomputable def UE (c:Addr) (G:je) (fr:kP):qM:=λρ=>(fr ρ).bind λp=>match G (.ins c []::p.1) with
 | .ok (.non,q::_)=>.ok (q,p.2)
 | .exc x _=>.exc x p.2
 | _=>.bad
def VC (P:eH) (w:eI) (K:Frag) (mg:Str->Option d5) (base:Heap) (cv:Str->d5) (k:Nat) (c:Addr) (x:Str) (ps:List Str) (ms:List PM) (mr:Mo) (G:je):Prop:=
 ∃ f fd,FnOk P w K mg base (CXk P w) k f fd ps (spD K cv ms mr G)/\Meth K c x f/\Binds K fd ps []
def VD (P:eH) (w:eI) (K:Frag) (mg:Str->Option d5) (base:Heap) (cv:Str->d5) (k:Nat) (c:Addr) (ps:List Str) (ms:List PM) (G:je):Prop:=
 ∃ f fd,FnOk P w K mg base (CXk P w) k f fd ps (spD K cv ms .sh G)/\Mk K c f/\Binds K fd ps []
noncomputable def qbG:List AK->Bool
 | []=>d8
 | .vl::l=>qbG l
 | _::_=>d7
theorem GZ {K:Frag} {H0 F F' H H':Hp} {σ:St} (g:Same F F'):∀ {as:List AK} {vs:List V} {ds:List D},qbG as=d8->ArgV K H0 F H σ as vs ds->ArgsIs K F' H' (as.map wO) vs ds/\wn (as.map wO) vs=[]
 | [],[],[],_,_=>⟨trivial,rfl⟩
 | .vl::as,v::vs,d::ds,h,a=>by have l:=GZ (H':=H') g (as:=as) h a.2;exact ⟨⟨a.1.mono g,l.1⟩,l.2⟩
 | [],_::_,_,_,a=>a.elim
 | [],[],_::_,_,a=>a.elim
 | .vl::_,[],_,_,a=>a.elim
 | .vl::_,_::_,[],_,a=>a.elim
 | .sl _::_,_,_,h,_=>by cases h
 | .fr::_,_,_,h,_=>by cases h
theorem qbH {x:Addr} {vs:List V} {q:D} {os:List D} (h:vL K F H (.io::ms) (.ref x::vs) (q::os)):F x=d6/\OwnIs K F H x q:=by obtain ⟨⟨a,e,h1,h2⟩,_⟩:=h;cases e;exact ⟨h1,h2⟩
theorem XR {as:List AK} {fr:kP} {k j:Nat} {p:Pos} {G:je} (MF:VD X.prog X.w X.K X.mg X.base cv j c ps ms G) (hr:Room k X.A) (hj:j+1<=k) (hx:jr (CXk X.prog X.w) X C.E) (hg:Gl X x) (hm:X.mg x=d4 (.ref c)) (ha:PA X (e::es) (tAr C own as fr)) (P:C.cv=cv:=by rfl) (Y:C.K=X.K:=by rfl) (L:ms=.io::as.map wO:=by rfl) (hv:qbG as=true:=by rfl) (N:∀ i∈C.ox,i∈own:=by exact jm rfl)
  (O:Dbg x:=by decide) (he:eh (e::es) X.env=(d7,eval e X.env)::eh es X.env:=by exact qK rfl) (I:(e9 pos (eh es X.env)).any (·.1)=false:=by exact jY rfl):PE X (.Call (.Name x p) (e::es) [] pos) (tE C own .fr (UE c G fr)):=by
 subst P;obtain ⟨f,fd,F0,M,R⟩:=MF;refine jd (YL M F0 (hr.mono hj) hg hm R .nil hx ha O he I) λσ H Q ⟨F,ρ,Z,h⟩=>⟨F,ρ,Z,?_⟩
 unfold UE at h;cases B:fr ρ with
 | exc c=>rw [B] at h; exact h
 | bad=>rw [B] at h; exact h.elim
 | ok pr=>
  rw [B] at h;obtain ⟨ds,ρ1⟩:=pr;intro vs F1 H1 r T av x dx a m ne;rw [aS];have S:H x=none:=by
   cases q:H x with
   | none=>rfl
   | some o=>exact absurd a (T.stay x (by rw [q]; simp))
  have nF:∀ {z:Addr},H1 z=d6->F1 z=none:=λ{z} l=>r.sub.free l;have ex:(upd (upd H1 dx (.own x)) x (.ins c dx [])) x=d4 (.ins c dx []):=ql;have c2:Chg No F1 H1 F1 (upd (upd H1 dx (.own x)) x (.ins c dx [])):=⟨λb o J _=>by
    rw [qu (λz=>by rw [z,a] at J; cases J),qu (λz=>by rw [z,m] at J; cases J)]; exact J,λb nb=>by
    by_cases z:b=x;·rw [z,ex]; simp
    ·rw [qu z];by_cases U:b=dx;·rw [U,ql]; simp
     ·rw [qu U]; exact nb,Same.refl _,λb R=>.inl R⟩
  have s2:Same F1 (upd (upd H1 dx (.own x)) x (.ins c dx [])):=λb o J=>by rw [qu (λz=>by rw [z,nF a] at J; cases J),qu (λz=>by rw [z,nF m] at J; cases J)]; exact r.sub b o J
  obtain ⟨ar,le⟩:=GZ (H':=upd (upd H1 dx (.own x)) x (.ins c dx [])) (Same.refl F1) hv av;have W:wn (PM.io::as.map wO) (V.ref x::vs)=[x]:=by show x::wn (as.map wO) vs=[x]; rw [le]
  subst L;refine ⟨F1,.ins c []::ds,s2,⟨⟨x,rfl,nF a,dx,[],ex,.nil⟩,by rw [<-Y]; exact ar⟩,by rw [W]; simp,?_⟩;have n:∀ {F' H':Hp},Chg (LA (PM.io::as.map wO) (V.ref x::vs)) F1 (upd (upd H1 dx (.own x)) x (.ins c dx [])) F' H'->Chg No F1 H1 F' H':=λ{F' H'} g=>by
   have g:Chg (λz=>z=x) F1 (upd (upd H1 dx (.own x)) x (.ins c dx [])) F' H':=g.mono λz l=>by have l:z∈wn (PM.io::as.map wO) (V.ref x::vs):=l;rw [W] at l; simpa using l
   exact c2.trans g λz l=>.inr (by rw [l]; exact a)
  have h:Po C own .fr σ F H (match G (.ins c []::ds) with | .ok (.non,q::_)=>.ok (q,ρ1) | .exc x _=>.exc x ρ1 | _=>.bad) Q:=h;cases u:G (.ins c []::ds) with
  | bad=>rw [u] at h; exact h.elim
  | exc y o=>rw [u] at h;exact λF' H' t g _=>h F' H' t ((r.grow (n g) t).ioIs N) (T.trans' (n g).ofNo)
  | ok pq=>
   rw [u] at h;obtain ⟨d,s⟩:=pq;cases d with
   | non=>
    cases s with
    | nil=>exact h.elim
    | cons q os=>
     intro v F' H' t g oi mo;have D:v=.non:=by have mo:Is _ F' v .non:=mo;cases mo; rfl
     obtain ⟨fx,ow⟩:=qbH oi;refine ⟨D,h (.ref x) F' H' (r.grow (n g) t) (T.trans' (n g).ofNo) ⟨x,rfl,S,fx,?_⟩⟩;rw [Y]; exact ow
   | _=>exact h.elim
noncomputable def VE (c:Addr) (n:Str) (G:je) (fo:qM):qM:=λρ=>(fo ρ).bind λp=>match p.1 with
 | .ins k fs=>if k=c/\(fs.lookup n).isNone=d8 then (match G [.ins k fs] with
  | .ok q=>.ok (q.1,p.2)
  | .exc x _=>.exc x p.2
  | .bad=>.bad) else .bad
 | _=>.bad
theorem UF {k j:Nat} {n:Str} {apos:Pos} {G:je} {pl:Sem Bool} (T:Cls X.K c) (W:VC X.prog X.w X.K X.mg X.base cv j c n ps [.val] mr G) (P:Room k X.A) (S:j<=k) (hx:jr (CXk X.prog X.w) X C.E) (R:PE X o (tE C own mo fo)) (p:mo≠.any:=by decide) (B:C.cv=cv:=by rfl) (J:C.K=X.K:=by rfl) (u:∀ i∈C.ox,i∈own:=by exact jm rfl)
  (O:eval (.Call (.Attribute o n apos) [] [] pos) X.env=(do
   let ov <-eval o X.env
   standAt apos.atName
   let (f,first) <-holding [ov] (getMethod ov n pl)
   callWith pos f first (e9 pos (eh [] X.env)) (fJ pos (fh [] X.env))):=by rfl):PE X (.Call (.Attribute o n apos) [] [] pos) (tE C own mr (VE c n G fo)):=by
 subst B;obtain ⟨f,fd,F0,M,U⟩:=W;refine jd (WG (pl:=pl) (uR R p) T M F0 (P.mono S) U .nil hx O) λσ H Q ⟨F,ρ,L,h⟩=>⟨F,ρ,L,Po.bind h λv F1 H1 d ρ1 b Y m h1=>?_⟩
 have m:Is C.K F1 v d:=m;cases m with
 | @ins a k dx fv fs ea t=>
  replace h1:Po C own mr σ F1 H1 (if k=c/\(fs.lookup n).isNone=d8 then (match G [.ins k fs] with | .ok q=>.ok (q.1,ρ1) | .exc x _=>.exc x ρ1 | .bad=>.bad) else .bad) Q:=h1;by_cases z:k=c/\(fs.lookup n).isNone=d8
  ·rw [Aa z] at h1;obtain ⟨rfl,I⟩:=z;refine ⟨a,dx,fv,rfl,b.sub _ _ ea,t.non (by cases q:fs.lookup n with | none=>rfl | some y=>rw [q] at I; cases I),?_⟩;refine ⟨F1,[.ins k fs],b.sub,⟨by rw [<-J]; exact .ins ea t,trivial⟩,da,?_⟩;have r:∀ {F' H':Hp},Chg (LA [PM.val] [V.ref a]) F1 H1 F' H'->Chg No F1 H1 F' H':=λg=>g.mono λz l=>by have l:z∈([]:List Addr):=l;cases l
   cases e:G [.ins k fs] with
   | bad=>rw [e] at h1; exact h1.elim
   | exc y o=>rw [e] at h1; exact λF' H' s g _=>h1 F' H' s ((b.grow (r g) s).ioIs u) (r g).ofNo
   | ok N=>rw [e] at h1;obtain ⟨d,D⟩:=N;exact λv F' H' s g _ mo=>h1 v F' H' (b.grow (r g) s) (r g).ofNo (by rw [J]; exact mo)
  ·rw [Ab z] at h1; exact h1.elim
 | _=>exact h1.elim
end
def XS (K:Frag) (c:Addr) (x qual:Str) (st:Stmt) (ps:List Str):Prop:=∃ f fd,Fun K x qual st f fd/\Meth K c x f/\Binds K fd ps []
def XT (K:Frag) (c:Addr) (qual:Str) (st:Stmt) (ps:List Str):Prop:=∃ f fd,Fun K "__init__" qual st f fd/\Mk K c f/\Binds K fd ps []
section
variable {P:eH} {w:eI} {mg:Str->Option d5} {base:Heap} {qual:Str} {st:Stmt} {N:List Str} {k:Nat} {own':List Nat} {fb:qP}
theorem XU (T:XS K c x qual st ps) (S:FnScope N ps (qv st))
  (h:∀ (cdv:d5) (f:Addr) (A:eZ) (outer:List Env) (s:d9) (H:Hp) (E:XK),Room k (A.deeper (fw qual (qv st) s.heap.objs.size f cdv)) ->PSs (cxk P w K mg base N qual (qv st) f cdv A outer s H E) (jb st) (tSt (WZ K cv E ms mr) (jf 0 ms) own' fb))
  (hl:ms.length=ps.length:=by rfl) (g:∀ i∈xO 0 ms,i∈own':=by exact jm rfl) (r:mr=.sh\/∀ ds ρ,(fb (qf N ds))≠.ok (.nx,ρ):=by exact .inl rfl):VC P w K mg base cv (k+1) c x ps ms mr (jA N ms fb):=by
 obtain ⟨f,fd,F,m,d⟩:=T;exact ⟨f,fd,qaz F S hl g r (λcdv A outer s H E a=>h cdv f A outer s H E a) λ_=>.inr rfl,m,d⟩
theorem XV (T:XT K c qual st ps) (S:FnScope N ps (qv st))
  (h:∀ (cdv:d5) (f:Addr) (A:eZ) (outer:List Env) (s:d9) (H:Hp) (E:XK),Room k (A.deeper (fw qual (qv st) s.heap.objs.size f cdv)) ->PSs (cxk P w K mg base N qual (qv st) f cdv A outer s H E) (jb st) (tSt (WZ K cv E ms .sh) (jf 0 ms) own' fb))
  (hl:ms.length=ps.length:=by rfl) (g:∀ i∈xO 0 ms,i∈own':=by exact jm rfl):VD P w K mg base cv (k+1) c ps ms (jA N ms fb):=by
 obtain ⟨f,fd,F,m,d⟩:=T;exact ⟨f,fd,qaz F S hl g (.inl rfl) (λcdv A outer s H E r=>h cdv f A outer s H E r) λ_=>.inr rfl,m,d⟩
end
section
theorem vr {i:Nat} (h:X.N[i]?=d4 x:=by rfl) (c:Vis X.env.scope x:=by first | exact db rfl | exact dU (db rfl) | exact dU (dU rfl)) (s:i∉own:=by decide) (hd:Dbg x:=by decide) (d:Cdk x:=by decide):PE X (.Name x pos) (tE C own .sh (qd i)):=Gg h c s hd d
end
end L2.D2
namespace L2.D2
open PySem PySem.Spec PyProof.Rows PySem.W
end L2.D2
namespace PySem.F
end PySem.F
namespace L2.D2
open PySem PySem.Spec PyProof.Rows PySem.W
end L2.D2
namespace L2.D2
open PySem PySem.Spec PyProof.Rows
open PySem.SeqAt
open AutoSeq1 (wpAny_loadPart')
open MeetsSeq MeetsSeq2 MeetsSeq3
end L2.D2
namespace L2.D2
open PySem PySem.Spec PyProof.Rows
open PySem.SeqAt
end L2.D2
namespace L2.D2
open PySem PySem.Spec PyProof.Rows
open AutoSeq1 (wpAny_loadPart')
end L2.D2
namespace L2.D2
open PySem PySem.Spec PyProof.Rows
section
variable {X:Cx} {C:Ct} {own:List Nat} {m ma mb:Mo} {a b e:Expr} {fa fb fe:qM} {apos cpos px:Pos}
theorem qaa {o e:Expr} {to:TE} {t:TA} {name:Str} {id:String} {r:V->List V->Hp->VK->Prop} (slot:Slot "tuple" name id) (y:ig (.builtin id)=pure (.type "method_descriptor")) (m:MtR X id r) (i:PE X o to) (k:PA X [e] t)
  (c:fg o name X.env (eval o X.env)=eval o X.env)
  (w:((e9 cpos (eh [e] X.env)).all (λx=>!x.1)&&(fJ cpos (fh [] X.env)).all (λx=>x.1.isSome)
   && decide ([e].length+([]:List fB).length+(if ([]:List fB).isEmpty then 0 else 1) < 30))=d8)
  (b:(apos.endLine == cpos.line)=d8) (g:eh [e] X.env=[(d7,eval e X.env)]) :
  PE X (.Call (.Attribute o name apos) [e] [] cpos) (λσ H Q=>to σ H λx H1=>(∃ p xs,x=.ref p/\SqT X.K H1 p xs)/\t σ H1 λxs H2=>r x xs H2 Q):=by
 refine ⟨?_⟩;intro pins s σ H Q I h;refine wpAny_Call_method_late c w b rfl (thn (i pins s σ H _ I h) λv s1 ⟨x,H1,d,r1,ty,f⟩=>?_);obtain ⟨p,xs,rfl,hq⟩:=ty;cases r1;obtain ⟨o',e1,l⟩:=d.tupleN hq;obtain ⟨its,u,⟨o2,E,j,_⟩,_⟩:=d.tuple hq;refine ⟨"tuple",id,PySem.F.plainAttrs_tuple,slot,y,⟨o2,E,j⟩,λa z=>by cases z; exact ⟨o',e1,l⟩,?_⟩;have hA:=k cpos pins s1 σ H1 _ d f;rw [g] at hA ⊢;refine Calls.callWith_builtin rfl (cP ?_);exact thn hA λus s2 ⟨vs,H2,n,r2,q⟩=>m pins s2 σ H2 (.ref p) vs _ us Q n rfl r2 q
noncomputable def qab:D->Bool
 | .tup _=>d8
 | _=>d7
noncomputable def ui:D->D->Out D
 | .tup ds,e=>match zf 7 e ds with
  | some _=>.ok (.int ((ds.map λd=>eqN 7 d e == d4 d8).countP id:Nat))
  | none=>.bad
 | _,_=>.bad
theorem VF (G:C.K=X.K) (D:X.A.units+64 < fz):MtD X C .sh "tuple.count" ui:=by
 intro pins s σ H x vs v us Q I k m h;obtain ⟨y,F,dx,g,rfl,f,i,ty,po⟩:=h;rw [G] at i ty;obtain ⟨u,rfl,B⟩:=m.one;unfold ui at po;cases dx <;> try exact po.elim
 rename_i ds;cases e:zf 7 g ds with
 | none=>simp only [e] at po; exact po.elim
 | some b=>simp only [e] at po;obtain ⟨F',g',c,q⟩:=ty.is f;obtain ⟨a,xs,rfl,p,l⟩:=i.tup f;cases k;obtain ⟨its,r,pl,J⟩:=I.tuple p;obtain ⟨h1,h2⟩:=KH (A:=X.A) (y:=.non) (a:=a) (u:=.none) I D c q B (l.mono g') r e;have E:=Vv I c (l.mono g') r e;obtain ⟨⟨cls,dd,data,sl⟩,o,j,n,t⟩:=pl;simp only at j t;subst j t;refine fK PySem.F.slot_tuple_count ⟨_,o,rfl⟩ PySem.F.entry_tuple_count (PySem.F.args_tuple_count_2 _ _) (SeqAt.tuple_countAt a _ n dd sl u (Wr X F' 7 g)) ⟨o,λw z=>h2 w z,?_⟩;refine ⟨.int ((ds.map λd=>eqN 7 d g == d4 d8).countP id:Nat),H,I.tok _,⟨s.toks,?_⟩,po _ F H f .refl (.int _)⟩;rw [<-E,List.countP_map];rfl
theorem VG (n:C.K=X.K) (u:X.A.units+64 < fz)
  (l:PE X a (tE C own ma fa)) (i:PE X b (tE C own mb fb)) (f:ma≠.any:=by decide)
  (c:fg a "count" X.env (eval a X.env)=eval a X.env:=by rfl)
  (w:((e9 cpos (eh [b] X.env)).all (λx=>!x.1)&&(fJ cpos (fh [] X.env)).all (λx=>x.1.isSome)
   && decide ([b].length+([]:List fB).length+(if ([]:List fB).isEmpty then 0 else 1) < 30))=true:=by exact wf rfl)
  (e:(apos.endLine == cpos.line)=true:=by rfl) (s:eh [b] X.env=[(d7,eval b X.env)]:=by exact qJ rfl) :
  PE X (.Call (.Attribute a "count" apos) [b] [] cpos) (tE C own .sh (dM qab ui fa fb)):=by
 refine jd (qaa PySem.F.slot_tuple_count PySem.F.type_tuple_count (VF n u) l (qF i jw s) c w e s) λσ H Q h=>?_;obtain ⟨F,ρ,p,h⟩:=XN (ma:=ma) (mb:=mb) f h;refine ⟨F,ρ,p,Po.imp h λx H1 h1=>?_⟩;obtain ⟨⟨F1,dx,g,d,k⟩,h2⟩:=h1;refine ⟨?_,?_⟩
 ·cases dx <;> try (cases k; done)
  obtain ⟨a,vs,rfl,hq,t⟩:=d.tup g;exact ⟨a,vs,rfl,by rw [<-n]; exact hq⟩
 ·obtain ⟨m,j,r,h2⟩:=h2;exact ⟨m,j,r,Po.imp h2 λy H2 q=>⟨y,q.choose,q.choose_spec.choose,q.choose_spec.choose_spec.choose,rfl,q.choose_spec.choose_spec.choose_spec⟩⟩
end
end L2.D2
namespace L2.D2
open PySem PySem.Spec PyProof.Rows PySem.W
end L2.D2
namespace L2.D2
open PySem PySem.Spec PyProof.Rows
theorem fsc {N P:List Str} {sc:fN} (a:sc.kind=.function:=by rfl) (b:sc.isCoroutine=false:=by rfl) (c:sc.isGenerator=false:=by rfl) (d:N.Nodup:=by decide +kernel) (e:N.take P.length=P:=by rfl) (f:∀ x∈P,sc.names.lookup x=d4 .local\/sc.names.lookup x=d4 .cell:=by decide +kernel) (g:∀ y∈sc.names,y.2≠.free:=by decide +kernel):FnScope N P sc:=⟨a,b,c,d,e,f,g⟩
end L2.D2
namespace L2.D2
open PySem PySem.Spec PyProof.Rows PySem.W
section
variable {prog:eH} {w:eI} {A:eZ} {E:d5->d9->Prop} {s:d9}
variable {z TI TO i1 i2:Addr} {fp1 fp2:List Addr} {n1 n2 i:Nat} {P1 P2:Nat->d5->Prop} {S1 S2:Nat->Heap->Prop} {a b:d5}
end
end L2.D2
namespace L2.D2
open PySem PySem.Spec PyProof.Rows
variable {X:Cx} {C:Ct} {own:List Nat} {mr:Mo} {x:Str} {pos':Pos} {ms:List PM} {ps:List Str} {cv:Str->d5} {i:Nat}
section
variable {own':List Nat} {as:List AK} {G:je} {fr:kP} {m ma mb:Mo} {a b e:Expr} {es:List Expr} {p pos px:Pos} {k j:Nat} {fe f fa fb:qM}
theorem cN (F:DefOk X.prog X.w X.K X.mg X.base cv j x ps ms mr G) (g:PA X (e::es) (tAr C own as fr)) (f:Room k X.A:=by assumption) (h:j<=k:=by decide) (hx:jr (CXk X.prog X.w) X C.E:=by exact qbf) (hg:Gl X x:=by rfl) (v:C.cv=cv:=by rfl) (n:C.K=X.K:=by rfl) (s:ms=as.map wO:=by rfl) (c:∀ i∈qC as,i∈own:=by decide) (nd:(qC as).Nodup:=by decide) (a:frA as<=1:=by decide) (o:∀ i∈C.ox,i∈own:=by exact jm rfl)
  (b:Dbg x:=by decide) (d:eh (e::es) X.env=(d7,eval e X.env)::eh es X.env:=by exact qK rfl) (l:(e9 pos (eh es X.env)).any (·.1)=false:=by exact jY rfl):PE X (.Call (.Name x p) (e::es) [] pos) (tE C own mr (qw as G fr)):=
 qZ F f h hx hg g v n s c nd a o b d l
theorem sl {x:Str} {px:Pos} (g:PA X es (tAr C own as fr)) (a:X.N[i]?=d4 x:=by rfl) (c:Vis X.env.scope x:=by exact db rfl) (s:i∈own:=by decide) (h:eh (.Name x px::es) X.env=(d7,eval (.Name x px) X.env)::eh es X.env:=by rfl)
  (hd:Dbg x:=by decide) (d:Cdk x:=by decide):PA X (.Name x px::es) (tAr C own (.sl i::as) (kt fr)):=WV a c s g h hd d
theorem vO {x:Str} (h:X.N[i]?=d4 x:=by rfl) (c:Vis X.env.scope x:=by exact db rfl) (s:i∈own:=by decide) (hd:Dbg x:=by decide) (d:Cdk x:=by decide):PE X (.Name x pos) (tE C own .any (qd i)):=YZ h c s hd d
theorem se {x:Str} {pos':Pos} (a:PE X e (tE C own m fe)) (b:decide X.N.Nodup=true:=by kernel_rfl) (hi:X.N[i]?=d4 x:=by rfl) (hx:Loc X.env.scope x:=by first | exact db rfl | exact dU rfl) (h:m≠.any:=by decide) (o:i∉C.io:=by exact uQ rfl) (c:fY e (d4 (.Name x pos')) pos.line X.env=pure false:=by rfl)
  (f:X.fn x=d8\/X.env.scope.names.lookup x=d4 .local:=by first | exact .inl rfl | exact .inr rfl):PS X (.Assign [.Name x pos'] e pos) (tSt C own (kW own [i]) (vR i fe)):=Xg (Ad b) hi hx a h o c f
theorem sO {x:Str} {pos':Pos} (a:PE X e (tE C own .fr fe)) (b:decide X.N.Nodup=true:=by kernel_rfl) (hi:X.N[i]?=d4 x:=by rfl) (hx:Loc X.env.scope x:=by first | exact db rfl | exact dU rfl) (o:i∉C.io:=by exact uQ rfl) (c:fY e (d4 (.Name x pos')) pos.line X.env=pure false:=by rfl)
  (h:X.fn x=d8\/X.env.scope.names.lookup x=d4 .local:=by first | exact .inl rfl | exact .inr rfl):PS X (.Assign [.Name x pos'] e pos) (tSt C own (i::kW own [i]) (vR i fe)):=WU (Ad b) hi hx a o c h
theorem gn {x:Str} (a:decide X.N.Nodup=true:=by kernel_rfl) (hi:X.N[i]?=d4 x:=by rfl) (hx:Loc X.env.scope x:=by first | exact db rfl | exact dU rfl) (s:i∉own:=by decide) (o:i∉C.io:=by exact uQ rfl) (h:X.fn x=d8\/X.env.scope.names.lookup x=d4 .local:=by first | exact .inl rfl | exact .inr rfl):PG X (.Name x pos) (tGd C own (gNm i)):=Qr (Ad a) hi hx s o h
theorem ix (g:PE X a (tE C own ma fa)) (d:PE X b (tE C own mb fb)) (h:Room k X.A:=by assumption) (c:gi b:=by exact λ_ _=>rfl) (n:C.K=X.K:=by rfl) (f:ma≠.any:=by decide):PE X (.Subscript a b pos) (tE C own .sh (d2 ixD fa fb)):=qbd n h.units g d c f
theorem tv (h:PE X e (tE C own m f)) (n:C.K=X.K:=by rfl) (i:∀ whole,isTrue e X.env whole=(do let v <-whole; standAt e.pos; holding [v] (truthy v)):=by exact λ_=>rfl):PT X e (tT C own (yF f)):=Xd n h i
end
noncomputable def tgN:Expr->List Str
 | .Name x _=>[x]
 | .Tuple es _ _=>es.flatMap λe=>match e with
  | .Name x _=>[x]
  | _=>[]
 | _=>[]
noncomputable def cNm (tg:Expr) (N:List Str) (cap:List Nat):List Str:=tgN tg++cap.map λk=>N.getD k dS
section
variable {elt iter tg:Expr} {ifs:List Expr} {scope:fN} {pos spos:Pos} {fi:kP} {g:D->Sl->Out Sl} {ft:uE} {fe:qM} {me:Mo} {nt:Nat} {cap:List Nat}
theorem gC (a:decide X.N.Nodup=true:=by kernel_rfl) (hi:X.N[i]?=d4 x:=by rfl) (hx:Loc X.env.scope x:=by first | exact db rfl | exact dU rfl) (s:i∉own:=by decide) (o:i∉C.io:=by exact uQ rfl) (h:X.fn x=d8\/X.env.scope.names.lookup x=d4 .local:=by first | exact .inl rfl | exact .inr rfl):PG X (.Name x pos) (tGd C own (gNm i)):=Qr (Ad a) hi hx s o h
theorem cmp (hi:PI X tg iter (tIt C own fi)) (h:∀ fp L s' H',PE (ji X scope (cNm tg X.N cap) fp L s' H') elt (tE (ctC C nt cap.length) (vV own nt cap) me fe)) (hg:∀ fp L s' H',PG (ji X scope (cNm tg X.N cap) fp L s' H') tg (tGd (ctC C nt cap.length) (vV own nt cap) g):=by exact λ_ _ _ _=>gC) (m:∀ fp L s' H',PTs (ji X scope (cNm tg X.N cap) fp L s' H') ifs (tT (ctC C nt cap.length) (vV own nt cap) ft):=by exact λ_ _ _ _=>Ue)
  (P:X.calm=true:=by rfl) (bs:scB X.env.scope.names scope=true:=by kernel_rfl) (b:qbo X.env.scope.names X.N scope (cNm tg X.N cap) nt cap=true:=by kernel_rfl) (i:me≠.any:=by decide) (c:∀ x,fT iter X.env x=pure x:=by intro _; rfl) :
  PE X (.ListComp elt [⟨tg,iter,ifs,0⟩] scope pos) (tE C own .fr (jX own nt cap fi g ft fe)):=Xo P (qbn rfl bs) (GA rfl rfl b) hi hg m h i c
end
section
variable {P:eH} {w:eI} {K:Frag} {mg:Str->Option d5} {base:Heap} {st:Stmt} {N:List Str} {k:Nat} {fb:qP}
theorem dW (own':List Nat) (T:kl K mg x st ps)
  (c:∀ (cdv:d5) (f:Addr) (A:eZ) (outer:List Env) (s:d9) (H:Hp) (E:XK),Room k (A.deeper (fw x (qv st) s.heap.objs.size f cdv)) ->PSs (cxk P w K mg base N x (qv st) f cdv A outer s H E) (jb st) (tSt (WZ K cv E ms mr) (jf 0 ms) own' fb))
  (S:FnScope N ps (qv st):=by exact fsc) (hl:ms.length=ps.length:=by rfl) (g:∀ i∈xO 0 ms,i∈own':=by exact jm rfl) (r:mr=.sh\/∀ ds ρ,(fb (qf N ds))≠.ok (.nx,ρ):=by exact .inl rfl):DefOk P w K mg base cv (k+1) x ps ms mr (jA N ms fb):=Gz T S c hl g r
end
end L2.D2
namespace L2.D2
open PySem
end L2.D2
namespace L2.D2
open PySem PySem.SetTable
end L2.D2
namespace L2.D2
open PySem PySem.Spec PyProof.Rows
def qcC (x y:Str):Prop:=(y.length == 0)=d7/\(dL x y).1.length<=sizeLine/\(dL x y).2.1.length<=sizeLine/\(dL x y).2.2.length<=sizeLine
instance:∀ x y,Decidable (qcC x y):=λx y=>inferInstanceAs (Decidable (_/\_))
end L2.D2
namespace PySem
open Sem (wp)
open Builtin PySem.Spec PyProof.Rows
theorem qac (l:Addr) (items:Array d5) (n:Nat) (d:Option Addr) (sl:Array (Option d5)) (x:Int) (u:Tok) (f:¬(decide (x < -2 ^ 63)||decide (x ≥ 2 ^ 63))=d8) (h1:¬(items.isEmpty||x == 1)=d8) (h2:¬(decide (x<=0)||items.isEmpty)=d8) (c:¬(items.size:Int) * x > (2 ^ 63 - 1) / 8) (e:¬Tuple.tupleTooMany (items.size * x)=d8) (z:(List.foldl (λb a=>b++a) #[] (aj x.toNat items)).size<=sizeLine):Meets (Builtin.«tuple.__mul__» ⟨[.ref l,.int x u],[]⟩) (λ_ R s=>s.heap.get? l=d4 { cls:=.type "tuple",dict:=d,data:=.seq items n,slots:=sl }/\R (.ok (.ret (bi s.heap.objs.size))) { s with heap:=s.heap.push { cls:=cF "tuple",data:=Data.seq (List.foldl (λb a=>b++a) #[] (aj x.toNat items)) },toks:=s.toks }):=
 .of_wp λprog w A R s h=>by
  obtain ⟨hp,g,d,tk,os⟩:=s; obtain ⟨hl,h⟩:=h;wp_walk
  rw [Ab f];wp_walk
  rw [Ab c];wp_walk
  exact ⟨_,rfl,h⟩
theorem XW (a:Int) (t:Tok) (l:Addr) (items:Array d5) (n:Nat) (d:Option Addr) (sl:Array (Option d5)):Meets (Builtin.«int.__rmul__» ⟨[.int a t,.ref l],[]⟩) (λ_ R s=>s.heap.get? l=d4 { cls:=.type "tuple",dict:=d,data:=.seq items n,slots:=sl }/\R (.ok (.ret Value.notImplemented)) s):=
 .of_wp λprog w A R s h=>by obtain ⟨hp,g,d,tk,os⟩:=s; obtain ⟨hl,h⟩:=h; wp_walk; exact ⟨_,rfl,h⟩
theorem uz:fillsNumberSlot (.type "tuple") "mul"=pure false:=
 fillsNumberSlot_seq (id := "tuple.__mul__") (r:=d4 (.builtin "tuple.__rmul__")) F.slot_tuple_mul.lookup (by decide +kernel) F.slot_tuple_rmul.lookup (by decide +kernel)
theorem zx:seqRepeat? (.type "tuple")=pure (d4 (.builtin "tuple.__mul__")):=by unfold seqRepeat?;rw [seqSlot_of (T := "tuple") (name := "__mul__") (id := "tuple.__mul__") F.slot_tuple_mul.lookup (by decide +kernel),seqSlot_of (T := "tuple") (name := "__rmul__") (id := "tuple.__rmul__") F.slot_tuple_rmul.lookup (by decide +kernel)];rfl
end PySem
namespace L2.D2
open PySem PySem.Spec PyProof.Rows
noncomputable def qad:D->D->Out D
 | .tup ds,.int n=>if (2<=n/\n<=1000)/\1<=ds.length/\ds.length * n.toNat<=100000 then .ok (.tup (aj n.toNat ds).flatten) else .bad
 | _,_=>.bad
theorem XX {X:Cx} {C:Ct} (G:C.K=X.K):OpD X C .sh (fq .Mult) qad:=by
 intro pins s σ H x y v u Q I D B h;obtain ⟨F,dx,J,A,w,ty,po⟩:=h;cases dx <;> try exact po.elim
 cases J <;> try exact po.elim
 rename_i ds n;unfold qad at po;by_cases z:(2<=n/\n<=1000)/\1<=ds.length/\ds.length * n.toNat<=100000
 ·simp only [Aa z] at po;obtain ⟨a,xs,rfl,p,i⟩:=w.tup A;obtain rfl:=ty.int;cases D;obtain ⟨t,rfl⟩:=B;rw [G] at p;obtain ⟨its,r,⟨⟨cls,d,data,sl⟩,f,q,k,g⟩,_⟩:=I.tuple p;have c:its.length=ds.length:=by rw [<-r.length,i.length]
  simp only at q g;subst q g;have hq:H s.heap.objs.size=none:=I.hok.fresh (ao _);obtain ⟨s2,c2⟩:=vS (u:=.tup (aj n.toNat xs).flatten) A hq;have E:(aj n.toNat xs).flatten.length<=sizeLine:=by rw [yb,i.length,ff]; lia
  have j:its.toArray.isEmpty=false:=by
   rw [Array.isEmpty_eq_false_iff_exists_mem];cases its with
   | nil=>simp at c; lia
   | cons b l=>exact ⟨b,by simp⟩
  have m:=listMul_foldl_if its.toArray n.toNat;rw [Ab (by rw [j]; exact bq)] at m;have hi:(its.toArray.size:Int) * n<=100000:=by
   have e:(its.toArray.size:Int) * n=((its.length * n.toNat:Nat):Int):=by rw [Int.natCast_mul,Int.toNat_of_nonneg (by lia)]; rfl
   rw [e,c]
   lia
  refine wpAny_binaryOp_repeat_ref (T := "tuple") (U := "int") (by decide) ⟨_,f,rfl⟩ (λs'=>ic s' n t) uz PySem.F.fills_int_mul bU zx PySem.F.slot_int_index.lookup
   (fK bU (ic s n t) PySem.F.entry_int_rmul (PySem.F.args_int_rmul_2 _ _) (XW n t a its.toArray k d sl)
    ⟨f,rfl,⟨_,f,rfl⟩,fK PySem.F.slot_tuple_mul ⟨_,f,rfl⟩ PySem.F.entry_tuple_mul (PySem.F.args_tuple_mul_2 _ _)
     (qac a its.toArray k d sl n t (by simp; lia) (by rw [j]; simp; lia) (by rw [j]; simp; lia) (by lia) (by simp only [Builtin.Tuple.tupleTooMany,ff,decide_eq_true_eq]; lia) (by rw [m,ah,yb,c,ff]; lia))
     ⟨f,?_⟩⟩)
  refine ⟨.ref s.heap.objs.size,_,I.laid (t':=s.toks) (o:=.tup (aj n.toNat xs).flatten) (λb o e=>ae _ e) (ao _) ⟨⟨E,_,aq _ rfl,rfl⟩,(aj n.toNat its).flatten,xm r _,_,aq _ rfl,rfl,0,?_⟩,rfl,po _ _ _ s2 c2 (.tup (.inl (.inl ql)) ((gI i _).mono c2.grow))⟩;rw [m]
 ·simp only [Ab z] at po;exact po.elim
end L2.D2
set_option maxHeartbeats 4000000
namespace Kx
open PySem PySem.Spec PyProof.Rows L2 L2.D2
noncomputable def top (i:Nat):Stmt:=PySem.Challenge.pw_lookwords_k01_words.main.body.getD i (.Pass ⟨0,0,0,0⟩)
noncomputable def CS:List Str:=["NoWords", "NoLook", "NoNumbers", "NoRoom", "NoWord", "NoWorths", "Never", "Full", "Known"]
noncomputable def FS:List Str:=["bar", "clash", "in_order", "is_bar", "is_telling", "least_room", "numbered", "pairs", "worths"]
structure Zt (K:Frag) (mg:Str->Option d5) (cv:Str->d5) (ca:Str->Addr):Prop where
 xs:Xs K cv ca CS "WordError"
 mref:∀ c∈CS,mg c=d4 (.ref (ca c))
 xin:∀ c∈CS,cm K (ca c) bmV "ValueError.__new__"=d8
 fref:∀ x∈FS,mg x=d4 (.ref (ca x))
 m_WordError:mg "WordError"=d4 (cv "WordError")
 z_ValueError:mg "ValueError"=d6
 z_all:mg "all"=d6
 z_bool:mg "bool"=d6
 z_int:mg "int"=d6
 z_isinstance:mg "isinstance"=d6
 z_len:mg "len"=d6
 z_list:mg "list"=d6
 z_max:mg "max"=d6
 z_min:mg "min"=d6
 z_range:mg "range"=d6
 z_set:mg "set"=d6
 z_str:mg "str"=d6
 z_tuple:mg "tuple"=d6
 c_LEAST_PLACE:∃ t,mg "LEAST_PLACE"=d4 (.int (-3) t)
 c_MOST_LETTERS:∃ t,mg "MOST_LETTERS"=d4 (.int 6 t)
 c_MOST_PLACE:∃ t,mg "MOST_PLACE"=d4 (.int 2 t)
 c_MOST_ROOM:∃ t,mg "MOST_ROOM"=d4 (.int 99 t)
 c_MOST_WORDS:∃ t,mg "MOST_WORDS"=d4 (.int 6 t)
 m_Words:mg "Words"=d4 (.ref (ca "Words"))
 b_cls:Cls K (ca "Words")
 b_no:∀ f∈(["look", "came", "width", "held"]:List Str),Qh K (ca "Words") f
theorem xo:eG "ValueError"=d4 (.type "ValueError"):=by decide +kernel
theorem yN:eG "all"=d4 (.builtin "all"):=by decide +kernel
theorem XY:eG "bool"=d4 (.type "bool"):=by decide +kernel
theorem qae:eG "int"=d4 (.type "int"):=by decide +kernel
theorem qt:eG "isinstance"=d4 (.builtin "isinstance"):=by decide +kernel
theorem jy:eG "len"=d4 (.builtin "len"):=by decide +kernel
theorem VH:eG "list"=d4 (.type "list"):=by decide +kernel
theorem qaf:eG "max"=d4 (.builtin "max"):=by decide +kernel
theorem qag:eG "min"=d4 (.builtin "min"):=by decide +kernel
theorem UG:eG "range"=d4 (.type "range"):=by decide +kernel
theorem qah:eG "set"=d4 (.type "set"):=by decide +kernel
theorem VI:eG "str"=d4 (.type "str"):=by decide +kernel
theorem wA:eG "tuple"=d4 (.type "tuple"):=by decide +kernel
variable {ca:Str->Addr}
theorem rz {X:Cx} {C:Ct} {own own':List Nat} {as:List AK} {e:Expr} {es:List Expr} {fr:kP} {np cpos pos:Pos} (Z:Zt X.K X.mg C.cv ca) (c:Str) (g:PA X (e::es) (tAr C own as fr)) (h:c∈CS:=by decide +kernel) (a:X.ex=[]:=by rfl) (m:Qs X C:=by exact GG rfl) (P:X.calm=true:=by rfl) (hg:Gl X c:=by rfl) (z:as.length<=1000:=by decide) (o:∀ i∈C.ox,i∈own:=by exact jm rfl) (hd:Dbg c:=by decide)
  (b:eh (e::es) X.env=(d7,eval e X.env)::eh es X.env:=by exact qK rfl) (l:(e9 cpos (eh es X.env)).any (·.1)=false:=by rfl):PS X (.Raise (d4 (.Call (.Name c np) (e::es) [] cpos)) d6 pos) (tSt C own own' (kY c fr)):=
 Vb a m P hg (Z.mref c h) (Z.xs.val c h) (Z.xin c h) g z o hd b l
instance {α:Type}:Inhabited (Out α):=⟨.bad⟩
structure Ev where
 P:eH
 w:eI
 K:Frag
 mg:Str->Option d5
 base:Heap
 cv:Str->d5
abbrev qA (e0:Ev):=DefOk e0.P e0.w e0.K e0.mg e0.base e0.cv
abbrev qbI (e0:Ev):=qbl e0.P e0.w e0.K e0.mg e0.base e0.cv
abbrev XZ (e0:Ev):=VD e0.P e0.w e0.K e0.mg e0.base e0.cv
abbrev Za (e0:Ev):=VC e0.P e0.w e0.K e0.mg e0.base e0.cv
abbrev kT (e0:Ev):=kl e0.K e0.mg
abbrev ZtE (e0:Ev) (ca:Str->Addr):=Zt e0.K e0.mg e0.cv ca
section
variable {e0:Ev}
abbrev wU:Stmt:=top 81
abbrev Jx:List Str:=["_law_script", "_law_k"]
noncomputable def vB:qP:=(jl (sIf (jp (d2 ltD (qd 1) (d1 uU (qd 0)))) (jI (d2 ixD (qd 0) (qd 1))) jq)
  (jl (sIf (jp (d2 eqD (qd 0) (yu qB))) (jI (dC (.int 0))) jq)
  (jI (d2 uF (d2 Ym (d2 ixD (qd 0) (d2 Xa (qd 1) (d1 uU (qd 0)))) (dC (.int 31))) (qd 1)))))
noncomputable abbrev wV:je:=jA Jx [.val,.val] (vB)
abbrev yc (e0:Ev):=qA e0 1 "_law_cell_at" ["_law_script", "_law_k"] [.val,.val] .sh (wV)
theorem gK (Z:ZtE e0 ca) (T:kT e0 "_law_cell_at" wU ["_law_script", "_law_k"]):yc e0:=
 dW [] T λcdv f A outer s H E h=>(qe (qT (jc WO vr (qy (jG rfl) rfl Z.z_len jy vr)) (qm (qp (ix vr vr))) qD)
  (qe (qT (jc (ze rfl h.units) vr (jO qc)) (qm (qp qo)) qD)
  (qm (qp (qR (jx rfl) (qR zd (ix vr (qR Qj vr (qy (jG rfl) rfl Z.z_len jy vr))) qo) vr)))))
abbrev xp:Stmt:=top 82
abbrev UH:List Str:=["_law_script", "_law_k", "_law_many", "_law_drawn"]
noncomputable def QE:qP:=(jl (vR 3 (d2 Xa (d2 Ym (d2 uF (d2 uF (qw [.vl,.vl] wV (qb (qd 0) (qb (qd 1) qB))) (d2 Ym (dC (.int 7919)) (qd 1))) (dC (.int 1))) (dC (.int 48271))) (dC (.int 2147483647))))
  (jI (d2 Xa (d2 Xa (d2 uF (d2 uF (d2 Ym (qd 3) (qd 3)) (d2 Ym (dC (.int 7)) (qd 3))) (qd 1)) (dC (.int 2147483629))) (qd 2))))
noncomputable abbrev xq:je:=jA UH [.val,.val,.val] (QE)
abbrev zy (e0:Ev):=qA e0 2 "_law_mixed" ["_law_script", "_law_k", "_law_many"] [.val,.val,.val] .sh (xq)
theorem VJ (Z:ZtE e0 ca) (T:kT e0 "_law_mixed" xp ["_law_script", "_law_k", "_law_many"]) (o:yc e0):zy e0:=
 dW [] T λcdv f A outer s H E h=>(qe (se (qR Qj (qR zd (qR (jx rfl) (qR (jx rfl) (cN o (qa vr (qa vr qc))) (qR zd qo vr)) qo) qo) qo))
  (qm (qp (qR Qj (qR Qj (qR (jx rfl) (qR (jx rfl) (qR zd vr vr) (qR zd qo vr)) vr) qo) vr))))
abbrev gL:Stmt:=top 83
abbrev Zb:List Str:=["_law_script", "_law_town", "_law_many"]
noncomputable def VL:qP:=(jl (wl (Vf 1 Vg (dC (.int 0))))
  (jI (qw [.vl,.vl,.vl] xq (qb (qd 0) (qb (d1 uU (qd 1)) (qb (qd 2) qB))))))
noncomputable abbrev kn:je:=jA Zb [.val,.io,.val] (VL)
abbrev vC (e0:Ev):=qA e0 3 "_law_draw" ["_law_script", "_law_town", "_law_many"] [.val,.io,.val] .sh (kn)
theorem UI (Z:ZtE e0 ca) (T:kT e0 "_law_draw" gL ["_law_script", "_law_town", "_law_many"]) (o:zy e0):vC e0:=
 dW [1] T λcdv f A outer s H E h=>(qe (jn (uV (i:=1) rfl rfl (db rfl) (by decide) qo))
  (qm (qp (cN o (qa vr (qa (qy (jG rfl) rfl Z.z_len jy vO) (qa vr qc)))))))
abbrev gM:Stmt:=top 84
abbrev Zc:List Str:=["_law_script", "_law_town", "_law_some"]
noncomputable def VM:qP:=(jI (d2 ixD (qd 2) (qw [.vl,.sl 1,.vl] kn (qb (qd 0) (kt (qb (d1 uU (qd 2)) qB))))))
noncomputable abbrev vX:je:=jA Zc [.val,.io,.val] (VM)
abbrev uJ (e0:Ev):=qA e0 4 "_law_pick" ["_law_script", "_law_town", "_law_some"] [.val,.io,.val] .sh (vX)
theorem UJ (Z:ZtE e0 ca) (T:kT e0 "_law_pick" gM ["_law_script", "_law_town", "_law_some"]) (o:vC e0):uJ e0:=
 dW [1] T λcdv f A outer s H E h=>(qm (qp (ix vr (cN o (qa vr (sl (qa (qy (jG rfl) rfl Z.z_len jy vr) qc)))))))
abbrev gN:Stmt:=top 85
abbrev Zd:List Str:=["_law_script", "_law_town", "_law_few", "_law_word_here", "_law_k"]
noncomputable def VN:qP:=(jl (vR 3 (dC (.str "")))
  (jl (Zx (kF (d2 uF (dC (.int 1)) (qw [.vl,.sl 1,.vl] kn (qb (qd 0) (kt (qb (qw [.vl,.sl 1,.vl] vX (qb (qd 0) (kt (qb (yu (qb (dC (.int 2)) (qb (dC (.int 3)) (qb (dC (.int 6)) qB)))) qB)))) qB)))))) (gNm 4)
  (vR 3 (d2 uF (qd 3) (d2 ixD (dC (.str "abcdefghijklmnopqrstuvwxyz")) (qw [.vl,.sl 1,.vl] kn (qb (qd 0) (kt (qb (qd 2) qB))))))))
  (jI (qd 3))))
noncomputable abbrev xr:je:=jA Zd [.val,.io,.val] (VN)
abbrev QF (e0:Ev):=qA e0 5 "_law_word" ["_law_script", "_law_town", "_law_few"] [.val,.io,.val] .sh (xr)
theorem UK (Z:ZtE e0 ca) (T:kT e0 "_law_word" gN ["_law_script", "_law_town", "_law_few"]) (o:vC e0) (q:uJ e0):QF e0:=
 dW [1] T λcdv f A outer s H E h=>(qe (se qU)
  (qe (gx di rfl (wR rfl Z.z_range (qR (jx rfl) qo (cN o (qa vr (sl (qa (cN q (qa vr (sl (qa (jO (qa qo (qa qo (qa qo qc)))) qc)))) qc)))))) gn
  (qm (se (qR (jx rfl) vr (ix qU (cN o (qa vr (sl (qa vr qc)))))))))
  (qm (qp vr))))
abbrev xu:Stmt:=top 86
abbrev UL:List Str:=["_law_script", "_law_town", "_law_most", "_law_few", "_law_made", "_law_k", "_law_word_here"]
noncomputable def QG:qP:=(jl (vR 3 (qw [.vl,.sl 1,.vl] vX (qb (qd 0) (kt (qb (yu (qb (dC (.int 2)) (qb (dC (.int 3)) (qb (dC (.int 4)) (qb (dC (.int 6)) (qb (dC (.int 26)) qB)))))) qB)))))
  (jl (vR 4 (yu qB))
  (jl (Zx (kF (d2 uF (dC (.int 1)) (qw [.vl,.sl 1,.vl] kn (qb (qd 0) (kt (qb (qd 2) qB)))))) (gNm 5)
  (jl (vR 6 (qw [.vl,.sl 1,.vl] xr (qb (qd 0) (kt (qb (qd 3) qB)))))
  (sIf (jp (d2 Yr (qd 6) (qd 4))) (wl (Vf 4 Vg (qd 6))) jq)))
  (jI (d1 Vi (qd 4))))))
noncomputable abbrev xw:je:=jA UL [.val,.io,.val] (QG)
abbrev zA (e0:Ev):=qA e0 6 "_law_words" ["_law_script", "_law_town", "_law_most"] [.val,.io,.val] .sh (xw)
theorem VO (Z:ZtE e0 ca) (T:kT e0 "_law_words" xu ["_law_script", "_law_town", "_law_most"]) (o:vC e0) (q:uJ e0) (a:QF e0):zA e0:=
 dW [1] T λcdv f A outer s H E h=>(qe (se (cN q (qa vr (sl (qa (jO (qa qo (qa qo (qa qo (qa qo (qa qo qc)))))) qc)))))
  (qe (sO (jO qc))
  (qe (gx di rfl (wR rfl Z.z_range (qR (jx rfl) qo (cN o (qa vr (sl (qa vr qc)))))) gn
  (qe (se (cN a (qa vr (sl (qa vr qc)))))
  (qm (qT (jc (Vl rfl h.units) vr vO) (qm (jn (uV (i:=4) rfl rfl (db rfl) (by decide) vr))) qD))))
  (qm (qp (zi (Uj rfl) rfl Z.z_tuple wA vO))))))
abbrev gO:Stmt:=top 87
abbrev Ze:List Str:=["_law_script", "_law_town"]
noncomputable def VP:qP:=(jI (gq (qb (d2 Wq (qw [.vl,.sl 1,.vl] kn (qb (qd 0) (kt (qb (dC (.int 6)) qB)))) (dC (.int 3))) (qb (d2 Wq (qw [.vl,.sl 1,.vl] kn (qb (qd 0) (kt (qb (dC (.int 6)) qB)))) (dC (.int 3))) qB))))
noncomputable abbrev gP:je:=jA Ze [.val,.io] (VP)
abbrev QH (e0:Ev):=qA e0 4 "_law_look" ["_law_script", "_law_town"] [.val,.io] .sh (gP)
theorem UM (Z:ZtE e0 ca) (T:kT e0 "_law_look" gO ["_law_script", "_law_town"]) (o:vC e0):QH e0:=
 dW [1] T λcdv f A outer s H E h=>(qm (qp (wm (qa (qR uf (cN o (qa vr (sl (qa qo qc)))) qo) (qa (qR uf (cN o (qa vr (sl (qa qo qc)))) qo) qc)))))
abbrev yd:Stmt:=top 88
abbrev VQ:List Str:=["_law_word_here", "_law_place"]
noncomputable def VR:qP:=(jl (sIf (jp (d2 geD (qd 1) (dC (.int 0)))) (jI (d2 ixD (d2 uF (vM (qd 0) (d4 (qd 1)) (d4 (d2 uF (qd 1) (dC (.int 1)))) d6) (d2 ixD (qd 0) (d1 Xx (dC (.int 1))))) (dC (.int 0)))) jq)
  (jI (d2 ixD (d2 uF (vM (vM (qd 0) d6 d6 (d4 (d1 Xx (dC (.int 1))))) (d4 (d2 Wq (d1 Xx (dC (.int 1))) (qd 1))) (d4 (d2 Wq (dC (.int 0)) (qd 1))) d6) (d2 ixD (qd 0) (dC (.int 0)))) (dC (.int 0)))))
noncomputable abbrev ky:je:=jA VQ [.val,.val] (VR)
abbrev yO (e0:Ev):=qA e0 1 "_law_letter" ["_law_word_here", "_law_place"] [.val,.val] .sh (ky)
theorem Jy (Z:ZtE e0 ca) (T:kT e0 "_law_letter" yd ["_law_word_here", "_law_place"]):yO e0:=
 dW [] T λcdv f A outer s H E h=>(qe (qT (jc Gn vr qo) (qm (qp (ix (qR (jx rfl) (vA rfl vr (ka vr) (ka (qR (jx rfl) vr qo)) jv) (ix vr (Ks zo qo))) qo))) qD)
  (qm (qp (ix (qR (jx rfl) (vA rfl (vA rfl vr jv jv (ka (Ks zo qo))) (ka (qR uf (Ks zo qo) vr)) (ka (qR uf qo vr)) jv) (ix vr qo)) qo))))
abbrev xx:Stmt:=top 89
abbrev UN:List Str:=["_law_words_here", "_law_look_here"]
noncomputable def QI:qP:=(jI (jX [] 1 [1] (uy (qd 0)) (gNm 0) ftT (gq (qb (qw [.vl,.vl] ky (qb (qd 0) (qb (d2 ixD (qd 1) (dC (.int 0))) qB))) (qb (qw [.vl,.vl] ky (qb (qd 0) (qb (d2 ixD (qd 1) (dC (.int 1))) qB))) qB)))))
noncomputable abbrev vD:je:=jA UN [.val,.val] (QI)
abbrev zB (e0:Ev):=qA e0 2 "_law_pairs" ["_law_words_here", "_law_look_here"] [.val,.val] .sh (vD)
theorem VS (Z:ZtE e0 ca) (T:kT e0 "_law_pairs" xx ["_law_words_here", "_law_look_here"]) (o:yO e0):zB e0:=
 dW [] T λcdv f A outer s H E h=>(qm (qp (cmp (km rfl vr) (λ_ _ _ _=>(wm (qa (qZ o h (by decide) uW rfl (qa vr (qa (ix vr qo) qc))) (qa (qZ o h (by decide) uW rfl (qa vr (qa (ix vr qo) qc))) qc)))))))
abbrev vY:Stmt:=top 20
abbrev gQ:List Str:=["thing"]
noncomputable def kG:qP:=(jI (Ji (d1 (ku "str") (qd 0)) (Ji (d2 eqD (d1 uU (qd 0)) (dC (.int 1))) (jN leD leD (dC (.str "a")) (qd 0) (dC (.str "z"))))))
noncomputable abbrev jT:je:=jA gQ [.val] (kG)
abbrev uj (e0:Ev):=qA e0 1 "is_letter" ["thing"] [.val] .sh (jT)
theorem zD (Z:ZtE e0 ca) (T:kT e0 "is_letter" vY ["thing"]):uj e0:=
 dW [] T λcdv f A outer s H E h=>(qm (qp (KJ (wx rfl rfl Z.z_isinstance qt rfl Z.z_str VI vr) (KJ (zc (ze rfl h.units) (qy (jG rfl) rfl Z.z_len jy vr) qo) (Yn (xb wk wk qU vr qU))))))
abbrev ye:Stmt:=top 21
abbrev VT:List Str:=["thing"]
noncomputable def kz:qP:=(jl (sIf (dOr (yt (yF (d1 (ku "str") (qd 0)))) (yt (jp (jN leD leD (dC (.int 1)) (d1 uU (qd 0)) (dC (.int 6)))))) (jI (dC (.bl d7))) jq)
  (jI (d1 JM (jX [] 1 [] (uy (qd 0)) (gNm 0) ftT (qw [.vl] jT (qb (qd 0) qB))))))
noncomputable abbrev kA:je:=jA VT [.val] (kz)
abbrev yP (e0:Ev):=qA e0 2 "is_word" ["thing"] [.val] .sh (kA)
theorem Jz (Z:ZtE e0 ca) (T:kT e0 "is_word" ye ["thing"]) (o:uj e0):yP e0:=
 dW [] T λcdv f A outer s H E h=>(qe (qT (PW.pt (wg (qV (tv (wx rfl rfl Z.z_isinstance qt rfl Z.z_str VI vr))) (kU (qV (wj wk wk qo (qy (jG rfl) rfl Z.z_len jy vr) (ww Z.c_MOST_LETTERS rfl)))))) (qm (qp yv)) qD)
  (qm (qp (qy (yK rfl rfl) rfl Z.z_all yN (cmp (km rfl vr) (λ_ _ _ _=>(qZ o h (by decide) uW rfl (qa vr qc))))))))
abbrev wW:Stmt:=top 22
abbrev JA:List Str:=["thing"]
noncomputable def ju:qP:=(jl (sIf (dOr (yt (yF (d1 (ku "tuple") (qd 0)))) (yt (jp (jN leD leD (dC (.int 1)) (d1 uU (qd 0)) (dC (.int 6)))))) (jI (dC (.bl d7))) jq)
  (jI (Ji (d1 JM (jX [] 1 [] (uy (qd 0)) (gNm 0) ftT (qw [.vl] kA (qb (qd 0) qB)))) (d2 eqD (d1 wT (qd 0)) (d1 uU (qd 0))))))
noncomputable abbrev kB:je:=jA JA [.val] (ju)
abbrev yf (e0:Ev):=qA e0 3 "is_words" ["thing"] [.val] .sh (kB)
theorem gR (Z:ZtE e0 ca) (T:kT e0 "is_words" wW ["thing"]) (o:yP e0):yf e0:=
 dW [] T λcdv f A outer s H E h=>(qe (qT (PW.pt (wg (qV (tv (wx rfl rfl Z.z_isinstance qt rfl Z.z_tuple wA vr))) (kU (qV (wj wk wk qo (qy (jG rfl) rfl Z.z_len jy vr) (ww Z.c_MOST_WORDS rfl)))))) (qm (qp yv)) qD)
  (qm (qp (KJ (qy (yK rfl rfl) rfl Z.z_all yN (cmp (km rfl vr) (λ_ _ _ _=>(qZ o h (by decide) uW rfl (qa vr qc))))) (Yn (zc (ze rfl h.units) (Vo rfl rfl rfl Z.z_len jy rfl Z.z_set qah vr) (qy (jG rfl) rfl Z.z_len jy vr)))))))
abbrev kI:Stmt:=top 28
abbrev xy:List Str:=["thing"]
noncomputable def kJ:qP:=(sIf (yt (yF (qw [.vl] kB (qb (qd 0) qB)))) (kY "NoWords" (qb (dC (.str "words are a tuple of 1 to 6 unlike words of 1 to 6 letters from a to z")) qB)) jq)
noncomputable abbrev qI:je:=jA xy [.val] (kJ)
abbrev ko (e0:Ev):=qA e0 4 "check_words" ["thing"] [.val] .sh (qI)
theorem yA (Z:ZtE e0 ca) (T:kT e0 "check_words" kI ["thing"]) (o:yf e0):ko e0:=
 dW [] T λcdv f A outer s H E h=>(qm (qT (qV (tv (cN o (qa vr qc)))) (qm (rz Z "NoWords" (qa qU qc))) qD))
abbrev va:Stmt:=top 19
abbrev zE:List Str:=["thing", "least", "most"]
noncomputable def vb:qP:=(jl (sIf (dOr (yt (yF (d1 (ku "int") (qd 0)))) (yF (d1 (ku "bool") (qd 0)))) (jI (dC (.bl d7))) jq)
  (jI (jN leD leD (qd 1) (qd 0) (qd 2))))
noncomputable abbrev jj:je:=jA zE [.val,.val,.val] (vb)
abbrev jJ (e0:Ev):=qA e0 1 "is_between" ["thing", "least", "most"] [.val,.val,.val] .sh (jj)
theorem xz (Z:ZtE e0 ca) (T:kT e0 "is_between" va ["thing", "least", "most"]):jJ e0:=
 dW [] T λcdv f A outer s H E h=>(qe (qT (PW.pt (wg (qV (tv (wx rfl rfl Z.z_isinstance qt rfl Z.z_int qae vr))) (kU (tv (wx rfl rfl Z.z_isinstance qt rfl Z.z_bool XY vr))))) (qm (qp yv)) qD)
  (qm (qp (xb wk wk vr vr vr))))
abbrev yg:Stmt:=top 23
abbrev VU:List Str:=["thing"]
noncomputable def zF:qP:=(jl (sIf (dOr (yt (yF (d1 (ku "tuple") (qd 0)))) (jp (d2 neD (d1 uU (qd 0)) (dC (.int 2))))) (jI (dC (.bl d7))) jq)
  (jI (d1 JM (jX [] 1 [] (uy (qd 0)) (gNm 0) ftT (qw [.vl,.vl,.vl] jj (qb (qd 0) (qb (dC (.int (-3))) (qb (dC (.int 2)) qB))))))))
noncomputable abbrev yh:je:=jA VU [.val] (zF)
abbrev yQ (e0:Ev):=qA e0 2 "is_look" ["thing"] [.val] .sh (yh)
theorem JB (Z:ZtE e0 ca) (T:kT e0 "is_look" yg ["thing"]) (o:jJ e0):yQ e0:=
 dW [] T λcdv f A outer s H E h=>(qe (qT (PW.pt (wg (qV (tv (wx rfl rfl Z.z_isinstance qt rfl Z.z_tuple wA vr))) (kU (jc (KB rfl h.units) (qy (jG rfl) rfl Z.z_len jy vr) qo)))) (qm (qp yv)) qD)
  (qm (qp (qy (yK rfl rfl) rfl Z.z_all yN (cmp (km rfl vr) (λ_ _ _ _=>(qZ o h (by decide) uW rfl (qa vr (qa (ww Z.c_LEAST_PLACE rfl) (qa (ww Z.c_MOST_PLACE rfl) qc))))))))))
abbrev vd:Stmt:=top 29
abbrev zG:List Str:=["thing"]
noncomputable def uk:qP:=(sIf (yt (yF (qw [.vl] yh (qb (qd 0) qB)))) (kY "NoLook" (qb (dC (.str "a look is a tuple of two places from -3 to 2")) qB)) jq)
noncomputable abbrev qW:je:=jA zG [.val] (uk)
abbrev kK (e0:Ev):=qA e0 3 "check_look" ["thing"] [.val] .sh (qW)
theorem xA (Z:ZtE e0 ca) (T:kT e0 "check_look" vd ["thing"]) (o:yQ e0):kK e0:=
 dW [] T λcdv f A outer s H E h=>(qm (qT (qV (tv (cN o (qa vr qc)))) (qm (rz Z "NoLook" (qa qU qc))) qD))
abbrev vZ:Stmt:=top 35
abbrev gS:List Str:=["word", "place", "at"]
noncomputable def wa:qP:=(jl (vR 2 (dIf (jp (d2 geD (qd 1) (dC (.int 0)))) (qd 1) (d2 uF (d1 uU (qd 0)) (qd 1))))
  (jI (d2 ixD (qd 0) (d2 qaC (dC (.int 0)) (d2 qaD (qd 2) (d2 Wq (d1 uU (qd 0)) (dC (.int 1))))))))
noncomputable abbrev jU:je:=jA gS [.val,.val] (wa)
abbrev ul (e0:Ev):=qA e0 1 "letter_at" ["word", "place"] [.val,.val] .sh (jU)
theorem zH (Z:ZtE e0 ca) (T:kT e0 "letter_at" vZ ["word", "place"]):ul e0:=
 dW [] T λcdv f A outer s H E h=>(qe (se (Gm (jc Gn vr qo) vr (qR (jx rfl) (qy (jG rfl) rfl Z.z_len jy vr) vr)))
  (qm (qp (ix vr (zp (GB rfl) rfl Z.z_max qaf qo (zp (GC rfl) rfl Z.z_min qag vr (qR uf (qy (jG rfl) rfl Z.z_len jy vr) qo)))))))
abbrev gT:Stmt:=top 36
abbrev Zf:List Str:=["words", "look"]
noncomputable def xB:qP:=(jl (wl (qw [.vl] qI (qb (qd 0) qB)))
  (jl (wl (qw [.vl] qW (qb (qd 1) qB)))
  (jI (jX [] 1 [1] (uy (qd 0)) (gNm 0) ftT (gq (qb (qw [.vl,.vl] jU (qb (qd 0) (qb (d2 ixD (qd 1) (dC (.int 0))) qB))) (qb (qw [.vl,.vl] jU (qb (qd 0) (qb (d2 ixD (qd 1) (dC (.int 1))) qB))) qB)))))))
noncomputable abbrev qL:je:=jA Zf [.val,.val] (xB)
abbrev kb (e0:Ev):=qA e0 5 "pairs" ["words", "look"] [.val,.val] .sh (qL)
theorem UO (Z:ZtE e0 ca) (T:kT e0 "pairs" gT ["words", "look"]) (t:ko e0) (u:kK e0) (o:ul e0):kb e0:=
 dW [] T λcdv f A outer s H E h=>(qe (jn (cN t (qa vr qc)))
  (qe (jn (cN u (qa vr qc)))
  (qm (qp (cmp (km rfl vr) (λ_ _ _ _=>(wm (qa (qZ o h (by decide) uW rfl (qa vr (qa (ix vr qo) qc))) (qa (qZ o h (by decide) uW rfl (qa vr (qa (ix vr qo) qc))) qc)))))))))
abbrev wX:Stmt:=top 39
abbrev JC:List Str:=["words", "look", "room", "worths", "seen", "worth_of"]
noncomputable def yR:qP:=(jl (vR 4 (qw [.vl,.vl] qL (qb (qd 0) (qb (qd 1) qB))))
  JN)
noncomputable abbrev jk:je:=jA JC [.val,.val,.val,.val] (yR)
abbrev yi (e0:Ev):=qA e0 6 "numbered" ["words", "look", "room", "worths"] [.val,.val,.val,.val] .sh (jk)
theorem gU (Z:ZtE e0 ca) (T:kT e0 "numbered" wX ["words", "look", "room", "worths"]) (o:kb e0):yi e0:=
 dW [] T λcdv f A outer s H E h=>(qe (se (cN o (qa vr (qa vr qc))))
  jS)
abbrev vf:Stmt:=top 30
abbrev zI:List Str:=["thing"]
noncomputable def zJ:qP:=(sIf (yt (yF (qw [.vl,.vl,.vl] jj (qb (qd 0) (qb (dC (.int 1)) (qb (dC (.int 99)) qB)))))) (kY "NoRoom" (qb (dC (.str "a room is a whole number from 1 to 99")) qB)) jq)
noncomputable abbrev um:je:=jA zI [.val] (zJ)
abbrev wB (e0:Ev):=qA e0 2 "check_room" ["thing"] [.val] .sh (um)
theorem xC (Z:ZtE e0 ca) (T:kT e0 "check_room" vf ["thing"]) (o:jJ e0):wB e0:=
 dW [] T λcdv f A outer s H E h=>(qm (qT (qV (tv (cN o (qa vr (qa qo (qa (ww Z.c_MOST_ROOM rfl) qc)))))) (qm (rz Z "NoRoom" (qa qU qc))) qD))
abbrev vg:Stmt:=top 26
abbrev zK:List Str:=["thing", "count", "room"]
noncomputable def zL:qP:=(jl (sIf (dOr (yt (yF (d1 (ku "tuple") (qd 0)))) (jp (d2 neD (d1 uU (qd 0)) (qd 1)))) (jI (dC (.bl d7))) jq)
  (jI (d1 JM (jX [] 1 [2] (uy (qd 0)) (gNm 0) ftT (qw [.vl,.vl,.vl] jj (qb (qd 0) (qb (dC (.int 0)) (qb (d2 Wq (qd 1) (dC (.int 1))) qB))))))))
noncomputable abbrev uo:je:=jA zK [.val,.val,.val] (zL)
abbrev wC (e0:Ev):=qA e0 2 "is_numbers" ["thing", "count", "room"] [.val,.val,.val] .sh (uo)
theorem xD (Z:ZtE e0 ca) (T:kT e0 "is_numbers" vg ["thing", "count", "room"]) (o:jJ e0):wC e0:=
 dW [] T λcdv f A outer s H E h=>(qe (qT (PW.pt (wg (qV (tv (wx rfl rfl Z.z_isinstance qt rfl Z.z_tuple wA vr))) (kU (jc (KB rfl h.units) (qy (jG rfl) rfl Z.z_len jy vr) vr)))) (qm (qp yv)) qD)
  (qm (qp (qy (yK rfl rfl) rfl Z.z_all yN (cmp (km rfl vr) (λ_ _ _ _=>(qZ o h (by decide) uW rfl (qa vr (qa qo (qa (qR uf vr qo) qc))))))))))
abbrev jV:Stmt:=top 32
abbrev yj:List Str:=["thing", "count", "room"]
noncomputable def yk:qP:=(sIf (yt (yF (qw [.vl,.vl,.vl] uo (qb (qd 0) (qb (qd 1) (qb (qd 2) qB)))))) (kY "NoNumbers" (qb (dC (.str "numbers are a tuple of a number within the room for each word")) qB)) jq)
noncomputable abbrev vh:je:=jA yj [.val,.val,.val] (yk)
abbrev kQ (e0:Ev):=qA e0 3 "check_numbers" ["thing", "count", "room"] [.val,.val,.val] .sh (vh)
theorem uA (Z:ZtE e0 ca) (T:kT e0 "check_numbers" jV ["thing", "count", "room"]) (o:wC e0):kQ e0:=
 dW [] T λcdv f A outer s H E h=>(qm (qT (qV (tv (cN o (qa vr (qa vr (qa vr qc)))))) (qm (rz Z "NoNumbers" (qa qU qc))) qD))
abbrev vi:Stmt:=top 41
abbrev zM:List Str:=["words", "look", "room", "numbers", "seen"]
noncomputable def uq:qP:=(jl (vR 4 (qw [.vl,.vl] qL (qb (qd 0) (qb (qd 1) qB))))
  (jl (wl (qw [.vl] um (qb (qd 2) qB)))
  (jl (wl (qw [.vl,.vl,.vl] vh (qb (qd 3) (qb (d1 uU (qd 0)) (qb (qd 2) qB)))))
  (jI (qd 4)))))
noncomputable abbrev jz:je:=jA zM [.val,.val,.val,.val] (uq)
abbrev jK (e0:Ev):=qA e0 6 "told_pairs" ["words", "look", "room", "numbers"] [.val,.val,.val,.val] .sh (jz)
theorem xE (Z:ZtE e0 ca) (T:kT e0 "told_pairs" vi ["words", "look", "room", "numbers"]) (G:wB e0) (B:kQ e0) (o:kb e0):jK e0:=
 dW [] T λcdv f A outer s H E h=>(qe (se (cN o (qa vr (qa vr qc))))
  (qe (jn (cN G (qa vr qc)))
  (qe (jn (cN B (qa vr (qa (qy (jG rfl) rfl Z.z_len jy vr) (qa vr qc)))))
  (qm (qp vr)))))
abbrev xF:Stmt:=top 51
abbrev UP:List Str:=["seen", "room", "numbers", "circles", "first", "joined", "root", "walk"]
noncomputable def UQ:qP:=JN
noncomputable abbrev QJ:je:=jA UP [.val,.val,.val] (UQ)
abbrev zN (e0:Ev):=qA e0 1 "bar_of" ["seen", "room", "numbers"] [.val,.val,.val] .sh (QJ)
theorem VV (Z:ZtE e0 ca) (T:kT e0 "bar_of" xF ["seen", "room", "numbers"]):zN e0:=
 dW [] T λcdv f A outer s H E h=>jS
abbrev Zg:Stmt:=top 52
abbrev qbJ:List Str:=["words", "look", "room", "numbers"]
noncomputable def qai:qP:=(jI (qw [.vl,.vl,.vl] QJ (qb (qw [.vl,.vl,.vl,.vl] jz (qb (qd 0) (qb (qd 1) (qb (qd 2) (qb (qd 3) qB))))) (qb (qd 2) (qb (qd 3) qB)))))
noncomputable abbrev xG:je:=jA qbJ [.val,.val,.val,.val] (qai)
abbrev VW (e0:Ev):=qA e0 7 "bar" ["words", "look", "room", "numbers"] [.val,.val,.val,.val] .sh (xG)
theorem qaj (Z:ZtE e0 ca) (T:kT e0 "bar" Zg ["words", "look", "room", "numbers"]) (o:jK e0) (a:zN e0):VW e0:=
 dW [] T λcdv f A outer s H E h=>(qm (qp (cN a (qa (cN o (qa vr (qa vr (qa vr (qa vr qc))))) (qa vr (qa vr qc))))))
abbrev xH:Stmt:=top 57
abbrev UR:List Str:=["words", "look", "room", "numbers", "seen", "starts"]
noncomputable def QK:qP:=(jl (sIf (jp (d2 WS (qw [.vl,.vl,.vl,.vl] xG (qb (qd 0) (qb (qd 1) (qb (qd 2) (qb (qd 3) qB))))) (dC .non))) (kY "Never" (qb (dC (.str "no worths give the words these numbers")) qB)) jq)
  JN)
noncomputable abbrev ke:je:=jA UR [.val,.val,.val,.val] (QK)
abbrev zO (e0:Ev):=qA e0 8 "worths" ["words", "look", "room", "numbers"] [.val,.val,.val,.val] .sh (ke)
theorem VX (Z:ZtE e0 ca) (T:kT e0 "worths" xH ["words", "look", "room", "numbers"]) (o:VW e0):zO e0:=
 dW [] T λcdv f A outer s H E h=>(qe (qT (jc Xe (cN o (qa vr (qa vr (qa vr (qa vr qc))))) vK) (qm (rz Z "Never" (qa qU qc))) qD)
  jS)
abbrev vj:Stmt:=top 58
abbrev zQ:List Str:=["words", "look", "room", "numbers", "thing", "given"]
noncomputable def ur:qP:=(jl (wl (qw [.vl,.vl,.vl,.vl] jz (qb (qd 0) (qb (qd 1) (qb (qd 2) (qb (qd 3) qB))))))
  JN)
noncomputable abbrev qX:je:=jA zQ [.val,.val,.val,.val,.val] (ur)
abbrev wD (e0:Ev):=qA e0 7 "is_telling" ["words", "look", "room", "numbers", "thing"] [.val,.val,.val,.val,.val] .sh (qX)
theorem xI (Z:ZtE e0 ca) (T:kT e0 "is_telling" vj ["words", "look", "room", "numbers", "thing"]) (o:jK e0):wD e0:=
 dW [] T λcdv f A outer s H E h=>(qe (jn (cN o (qa vr (qa vr (qa vr (qa vr qc))))))
  jS)
abbrev xJ:Stmt:=top 59
abbrev US:List Str:=["words", "look", "room", "numbers", "thing", "seen", "letter", "walk"]
noncomputable def QL:qP:=(jl (vR 5 (qw [.vl,.vl,.vl,.vl] jz (qb (qd 0) (qb (qd 1) (qb (qd 2) (qb (qd 3) qB))))))
  JN)
noncomputable abbrev kL:je:=jA US [.val,.val,.val,.val,.val] (QL)
abbrev zR (e0:Ev):=qA e0 7 "is_bar" ["words", "look", "room", "numbers", "thing"] [.val,.val,.val,.val,.val] .sh (kL)
theorem VY (Z:ZtE e0 ca) (T:kT e0 "is_bar" xJ ["words", "look", "room", "numbers", "thing"]) (o:jK e0):zR e0:=
 dW [] T λcdv f A outer s H E h=>(qe (se (cN o (qa vr (qa vr (qa vr (qa vr qc))))))
  jS)
abbrev wY:Stmt:=top 62
abbrev JD:List Str:=["seen", "later", "pair", "ahead"]
noncomputable def JE:qP:=JN
noncomputable abbrev yS:je:=jA JD [.val] (JE)
abbrev yl (e0:Ev):=qA e0 1 "clash_of" ["seen"] [.val] .sh (yS)
theorem gW (Z:ZtE e0 ca) (T:kT e0 "clash_of" wY ["seen"]):yl e0:=
 dW [] T λcdv f A outer s H E h=>jS
abbrev gX:Stmt:=top 63
abbrev Zh:List Str:=["words", "look"]
noncomputable def VZ:qP:=(jI (qw [.vl] yS (qb (qw [.vl,.vl] qL (qb (qd 0) (qb (qd 1) qB))) qB)))
noncomputable abbrev kq:je:=jA Zh [.val,.val] (VZ)
abbrev QM (e0:Ev):=qA e0 6 "clash" ["words", "look"] [.val,.val] .sh (kq)
theorem UT (Z:ZtE e0 ca) (T:kT e0 "clash" gX ["words", "look"]) (o:kb e0) (S:yl e0):QM e0:=
 dW [] T λcdv f A outer s H E h=>(qm (qp (cN S (qa (cN o (qa vr (qa vr qc))) qc))))
abbrev vm:Stmt:=top 74
abbrev zS:List Str:=["words", "look", "room", "seen"]
noncomputable def ut:qP:=(jl (vR 3 (qw [.vl,.vl] qL (qb (qd 0) (qb (qd 1) qB))))
  JN)
noncomputable abbrev vn:je:=jA zS [.val,.val,.val] (ut)
abbrev wE (e0:Ev):=qA e0 6 "one_to_one" ["words", "look", "room"] [.val,.val,.val] .sh (vn)
theorem xK (Z:ZtE e0 ca) (T:kT e0 "one_to_one" vm ["words", "look", "room"]) (o:kb e0):wE e0:=
 dW [] T λcdv f A outer s H E h=>(qe (se (cN o (qa vr (qa vr qc))))
  jS)
abbrev vo:Stmt:=top 75
abbrev zT:List Str:=["words", "look", "seen"]
noncomputable def uu:qP:=(jl (vR 2 (qw [.vl,.vl] qL (qb (qd 0) (qb (qd 1) qB))))
  JN)
noncomputable abbrev qE:je:=jA zT [.val,.val] (uu)
abbrev wF (e0:Ev):=qA e0 6 "least_room" ["words", "look"] [.val,.val] .sh (qE)
theorem xL (Z:ZtE e0 ca) (T:kT e0 "least_room" vo ["words", "look"]) (o:kb e0):wF e0:=
 dW [] T λcdv f A outer s H E h=>(qe (se (cN o (qa vr (qa vr qc))))
  jS)
abbrev gY:Stmt:=top 76
abbrev Zi:List Str:=["words"]
noncomputable def Wa:qP:=(jl (wl (qw [.vl] qI (qb (qd 0) qB)))
  JN)
noncomputable abbrev gZ:je:=jA Zi [.val] (Wa)
abbrev QN (e0:Ev):=qA e0 5 "looks" ["words"] [.val] .sh (gZ)
theorem UU (Z:ZtE e0 ca) (T:kT e0 "looks" gY ["words"]) (t:ko e0):QN e0:=
 dW [] T λcdv f A outer s H E h=>(qe (jn (cN t (qa vr qc)))
  jS)
abbrev wZ:Stmt:=top 77
abbrev JF:List Str:=["words", "look", "seen"]
noncomputable def yT:qP:=(jl (vR 2 (qw [.vl,.vl] qL (qb (qd 0) (qb (qd 1) qB))))
  JN)
noncomputable abbrev qQ:je:=jA JF [.val,.val] (yT)
abbrev ym (e0:Ev):=qA e0 6 "in_order" ["words", "look"] [.val,.val] .sh (qQ)
theorem Qa (Z:ZtE e0 ca) (T:kT e0 "in_order" wZ ["words", "look"]) (o:kb e0):ym e0:=
 dW [] T λcdv f A outer s H E h=>(qe (se (cN o (qa vr (qa vr qc))))
  jS)
abbrev ja:Stmt:=Kn (top 79) 1
abbrev wG:List Str:=["self"]
theorem yB:FnScope wG ["self"] (qv ja):=fsc
noncomputable def wH (ca:Str->Addr):qP:=(jI (d1 (qb9 (ca "Words") "came") (qd 0)))
noncomputable abbrev wI (ca:Str->Addr):je:=jA wG [.val] (wH ca)
abbrev vN (ca:Str->Addr) (e0:Ev):=Za e0 1 (ca "Words") "words" ["self"] [.val] .sh (wI ca)
theorem yC (Z:ZtE e0 ca) (T:XS e0.K (ca "Words") "words" "Words.words" ja ["self"]):vN ca e0:=
 XU (k:=0) (own':=[]) (fb:=wH ca) T yB λcdv f A outer s H E h=>(qm (qp (GY rfl Z.b_cls (Z.b_no "came" (by decide +kernel)) vr)))
abbrev qG:Stmt:=Kn (top 79) 0
abbrev kR:List Str:=["self", "look"]
abbrev jC:List Str:=["self", "look"]
theorem ua:FnScope kR jC (qv qG):=fsc
noncomputable def jD (ca:Str->Addr):qP:=(jl (wl (qw [.vl] qW (qb (qd 1) qB)))
  JN)
noncomputable abbrev jE (ca:Str->Addr):je:=jA kR [.io,.val] (jD ca)
abbrev kC (ca:Str->Addr) (e0:Ev):=XZ e0 4 (ca "Words") ["self", "look"] [.io,.val] (jE ca)
theorem ub (Z:ZtE e0 ca) (T:XT e0.K (ca "Words") "Words.__init__" qG jC) (u:kK e0):kC ca e0:=
 XV (k:=3) (own':=[0]) (fb:=jD ca) T ua λcdv f A outer s H E h=>(qe (jn (cN u (qa vr qc)))
  jS)
abbrev uK:Stmt:=top 90
abbrev QO:List Str:=["_law_e", "_law_own"]
theorem Wb:FnScope QO ["_law_e"] (qv uK):=fsc
noncomputable def uL (ca:Str->Addr):qP:=(jl (vR 1 (yu (qb (d1 (xR (Js ca CS "NoWords")) (qd 0)) (qb (d1 (xR (Js ca CS "NoLook")) (qd 0)) (qb (d1 (xR (Js ca CS "NoNumbers")) (qd 0)) (qb (d1 (xR (Js ca CS "NoRoom")) (qd 0)) qB))))))
  (jl (wl (Vf 1 qaB (yu (qb (d1 (xR (Js ca CS "NoWord")) (qd 0)) (qb (d1 (xR (Js ca CS "NoWorths")) (qd 0)) (qb (d1 (xR (Js ca CS "Never")) (qd 0)) (qb (d1 (xR (Js ca CS "Full")) (qd 0)) qB)))))))
  (jl (wl (Vf 1 Vg (d1 (xR (Js ca CS "Known")) (qd 0))))
  (jl (sIf (dOr (jp (d2 neD (d1 (zr d8) (qd 1)) (dC (.int 1)))) (yt (yF (d1 (xR (GI ca CS)) (qd 0))))) (jI (gq (qb (dC (.str "refused")) (qb (d1 Xx (dC (.int 1))) qB)))) jq)
  (jI (gq (qb (dC (.str "refused")) (qb (d1 (zt d8) (qd 1)) qB))))))))
noncomputable abbrev kM (ca:Str->Addr):je:=jA QO [.val] (uL ca)
abbrev zU (ca:Str->Addr) (e0:Ev):=qbI e0 1 "_law_which" ["_law_e"] [.val] .sh (kM ca)
theorem Wc (Z:ZtE e0 ca) (T:kT e0 "_law_which" uK ["_law_e"]):zU ca e0:=
 qbm (k:=0) (own':=[]) (fb:=uL ca) T Wb λcdv f A outer s H E h=>(qe (sO (jO (qa (wy rfl Z.z_isinstance qt rfl (Z.mref "NoWords" (by decide +kernel)) (Z.xs.ans (by decide +kernel)) vr) (qa (wy rfl Z.z_isinstance qt rfl (Z.mref "NoLook" (by decide +kernel)) (Z.xs.ans (by decide +kernel)) vr) (qa (wy rfl Z.z_isinstance qt rfl (Z.mref "NoNumbers" (by decide +kernel)) (Z.xs.ans (by decide +kernel)) vr) (qa (wy rfl Z.z_isinstance qt rfl (Z.mref "NoRoom" (by decide +kernel)) (Z.xs.ans (by decide +kernel)) vr) qc))))))
  (qe (jn (Vh (i:=1) rfl (db rfl) (by decide) (jO (qa (wy rfl Z.z_isinstance qt rfl (Z.mref "NoWord" (by decide +kernel)) (Z.xs.ans (by decide +kernel)) vr) (qa (wy rfl Z.z_isinstance qt rfl (Z.mref "NoWorths" (by decide +kernel)) (Z.xs.ans (by decide +kernel)) vr) (qa (wy rfl Z.z_isinstance qt rfl (Z.mref "Never" (by decide +kernel)) (Z.xs.ans (by decide +kernel)) vr) (qa (wy rfl Z.z_isinstance qt rfl (Z.mref "Full" (by decide +kernel)) (Z.xs.ans (by decide +kernel)) vr) qc)))))))
  (qe (jn (uV (i:=1) rfl rfl (db rfl) (by decide) (wy rfl Z.z_isinstance qt rfl (Z.mref "Known" (by decide +kernel)) (Z.xs.ans (by decide +kernel)) vr)))
  (WT [1] (qe (qT (PW.pt (wg (jc (KB rfl h.units) (Ur rfl vr) qo) (kU (qV (tv (XC rfl Z.z_isinstance qt rfl Z.z_ValueError xo Z.xs.ansV vr)))))) (qm (qp (wm (qa qU (qa (Ks zo qo) qc))))) qD)
  (qm (qp (wm (qa qU (qa (Us rfl vr) qc))))))))))
abbrev QP:Stmt:=top 91
abbrev Yu:List Str:=["_law_what", "_law_words_here", "_law_look_here", "_law_e"]
abbrev vE:List Str:=["_law_what", "_law_words_here", "_law_look_here"]
theorem Zj:FnScope Yu vE (qv QP):=fsc
noncomputable def kf (ca:Str->Addr):qP:=(xQ 4 (d4 3) (GH ca CS) (jl (sIf (jp (d2 ltD (qd 0) (dC (.int 4)))) (jI (vW [.vl,.vl] (qd 0) [qL,kq,qQ,qE] (qb (qd 1) (qb (qd 2) qB)))) jq)
  (jl (sIf (jp (d2 ltD (qd 0) (dC (.int 7)))) (jI (vW [.vl,.vl,.vl,.vl] (d2 Wq (qd 0) (dC (.int 4))) [xG,ke,jk] (qb (qd 1) (qb (qd 2) (qb (dC .non) (qb (dC .non) qB)))))) jq)
  (jl (sIf (jp (d2 ltD (qd 0) (dC (.int 9)))) (jI (vW [.vl,.vl,.vl,.vl,.vl] (d2 Wq (qd 0) (dC (.int 7))) [qX,kL] (qb (qd 1) (qb (qd 2) (qb (dC .non) (qb (dC .non) (qb (dC .non) qB))))))) jq)
  (jl (sIf (jp (d2 eqD (qd 0) (dC (.int 9)))) (jI (qw [.vl,.vl,.vl] vn (qb (qd 1) (qb (qd 2) (qb (dC .non) qB))))) jq)
  (jI (dIf (jp (d2 eqD (qd 0) (dC (.int 10)))) (qw [.vl] gZ (qb (qd 1) qB)) (VE (ca "Words") "words" (wI ca) (UE (ca "Words") (jE ca) (qb (qd 2) qB))))))))) (jI (qw [.vl] (kM ca) (qb (qd 3) qB))))
noncomputable abbrev kS (ca:Str->Addr):je:=jA Yu [.val,.val,.val] (kf ca)
abbrev We (ca:Str->Addr) (e0:Ev):=qA e0 9 "_law_ask" vE [.val,.val,.val] .sh (kS ca)
theorem Zk (Z:ZtE e0 ca) (T:kT e0 "_law_ask" QP vE) (o:kb e0) (P:yi e0) (N:VW e0) (X:zO e0) (I:wD e0) (i:zR e0) (d:QM e0) (a:wE e0) (F:wF e0) (c:QN e0) (Q:ym e0) (D:vN ca e0) (b:kC ca e0) (g:zU ca e0):We ca e0:=
 dW [] T λcdv f A outer s H E h=>(qm (Xv (own2:=[]) (n:=4) (j:=3) rfl rfl rfl rfl Z.m_WordError Z.xs.hit Zj.nd rfl rfl rfl (λpn xe E hx=>(qe (qT (jc WO vr qo) (qm (qp (gH (j:=6) (ca:=ca) (ns:=["pairs", "clash", "in_order", "least_room"]) (gs:=[qL,kq,qQ,qE]) ⟨⟨_,o.mono (by decide)⟩,⟨_,d.mono (by decide)⟩,⟨_,Q.mono (by decide)⟩,⟨_,F.mono (by decide)⟩,trivial⟩ (λx hx=>Z.fref x ((show ∀ x∈(["pairs", "clash", "in_order", "least_room"]:List Str),x∈FS from by decide +kernel) x hx)) (by decide) h (by decide) hx (ix (jO (qa (xl (Z.fref "pairs" (by decide +kernel)) rfl) (qa (xl (Z.fref "clash" (by decide +kernel)) rfl) (qa (xl (Z.fref "in_order" (by decide +kernel)) rfl) (qa (xl (Z.fref "least_room" (by decide +kernel)) rfl) qc))))) vr) (qa vr (qa vr qc))))) qD)
  (qe (qT (jc WO vr qo) (qm (qp (gH (j:=8) (ca:=ca) (ns:=["bar", "worths", "numbered"]) (gs:=[xG,ke,jk]) ⟨⟨_,N.mono (by decide)⟩,⟨_,X.mono (by decide)⟩,⟨_,P.mono (by decide)⟩,trivial⟩ (λx hx=>Z.fref x ((show ∀ x∈(["bar", "worths", "numbered"]:List Str),x∈FS from by decide +kernel) x hx)) (by decide) h (by decide) hx (ix (jO (qa (xl (Z.fref "bar" (by decide +kernel)) rfl) (qa (xl (Z.fref "worths" (by decide +kernel)) rfl) (qa (xl (Z.fref "numbered" (by decide +kernel)) rfl) qc)))) (qR uf vr qo)) (qa vr (qa vr (qa vK (qa vK qc))))))) qD)
  (qe (qT (jc WO vr qo) (qm (qp (gH (j:=7) (ca:=ca) (ns:=["is_telling", "is_bar"]) (gs:=[qX,kL]) ⟨⟨_,I.mono (by decide)⟩,⟨_,i.mono (by decide)⟩,trivial⟩ (λx hx=>Z.fref x ((show ∀ x∈(["is_telling", "is_bar"]:List Str),x∈FS from by decide +kernel) x hx)) (by decide) h (by decide) hx (ix (jO (qa (xl (Z.fref "is_telling" (by decide +kernel)) rfl) (qa (xl (Z.fref "is_bar" (by decide +kernel)) rfl) qc))) (qR uf vr qo)) (qa vr (qa vr (qa vK (qa vK (qa vK qc)))))))) qD)
  (qe (qT (jc (ze rfl h.units) vr qo) (qm (qp (qZ a h (by decide) hx rfl (qa vr (qa vr (qa vK qc)))))) qD)
  (qm (qp (Gm (jc (ze rfl h.units) vr qo) (qZ c h (by decide) hx rfl (qa vr qc)) (UF Z.b_cls D h (by decide) hx (XR b h (by decide) hx rfl Z.m_Words (qa vr qc))))))))))) (λe=>(qm (qp (Ve g ((h.quiet.mono (by decide)).mark _) uW rfl (qa vr qc)))))))
abbrev vp:Stmt:=top 92
abbrev zV:List Str:=["_law_thing", "_law_word_here"]
noncomputable def qY:qP:=(jl (sIf (dOr (yt (yF (d1 (ku "tuple") (qd 0)))) (yt (jp (jN leD leD (dC (.int 1)) (d1 uU (qd 0)) (dC (.int 6)))))) (jI (dC (.bl d7))) jq)
  (jl (Zx (uy (qd 0)) (gNm 1)
  (sIf (dOr (yt (yF (d1 (ku "str") (qd 1)))) (dOr (yt (jp (jN leD leD (dC (.int 1)) (d1 uU (qd 1)) (dC (.int 6))))) (yt (yF (d1 JM (jX [] 1 [] (uy (qd 1)) (gNm 0) ftT (jN leD leD (dC (.str "a")) (qd 0) (dC (.str "z"))))))))) (jI (dC (.bl d7))) jq))
  (jI (d1 JM (jX [] 1 [0] (uy (qd 0)) (gNm 0) ftT (d2 eqD (dM qab ui (qd 1) (qd 0)) (dC (.int 1))))))))
noncomputable abbrev kg:je:=jA zV [.val] (qY)
abbrev wJ (e0:Ev):=qA e0 1 "_law_are_words" ["_law_thing"] [.val] .sh (kg)
theorem xM (Z:ZtE e0 ca) (T:kT e0 "_law_are_words" vp ["_law_thing"]):wJ e0:=
 dW [] T λcdv f A outer s H E h=>(qe (qT (PW.pt (wg (qV (tv (wx rfl rfl Z.z_isinstance qt rfl Z.z_tuple wA vr))) (kU (qV (wj wk wk qo (qy (jG rfl) rfl Z.z_len jy vr) qo))))) (qm (qp yv)) qD)
  (qe (gx di rfl (km rfl vr) gn
  (qm (qT (PW.pt (wg (qV (tv (wx rfl rfl Z.z_isinstance qt rfl Z.z_str VI vr))) (wg (qV (wj wk wk qo (qy (jG rfl) rfl Z.z_len jy vr) qo)) (kU (qV (tv (qy (yK rfl rfl) rfl Z.z_all yN (cmp (km rfl vr) (λ_ _ _ _=>(xb wk wk qU vr qU)))))))))) (qm (qp yv)) qD)))
  (qm (qp (qy (yK rfl rfl) rfl Z.z_all yN (cmp (km rfl vr) (λ_ _ _ _=>(zc (ze rfl h.units) (VG rfl h.units vr vr) qo))))))))
abbrev Wf:Stmt:=top 93
abbrev Zl:List Str:=["_law_script", "_law_town", "_law_words_here", "_law_look_here", "_law_at", "_law_some", "_law_bad", "_law_odd"]
abbrev qak:List Str:=["_law_script"]
theorem qal:FnScope Zl qak (qv Wf):=fsc
noncomputable def Zm (ca:Str->Addr):qP:=(jl (vR 1 (yu qB))
  (jl (vR 2 (qw [.vl,.sl 1,.vl] xw (qb (qd 0) (kt (qb (dC (.int 6)) qB)))))
  (jl (vR 3 (qw [.vl,.sl 1] gP (qb (qd 0) (kt qB))))
  (jl (sIf (jp (d2 neD (qw [.vl,.vl,.vl] (kS ca) (qb (dC (.int 0)) (qb (qd 2) (qb (qd 3) qB)))) (qw [.vl,.vl] vD (qb (qd 2) (qb (qd 3) qB))))) (jI (dC (.bl d7))) jq)
  (jl (vR 4 (qw [.vl,.sl 1,.vl] kn (qb (qd 0) (kt (qb (d1 uU (qd 2)) qB)))))
  (jl (vR 5 (yu (qb (dC .non) (qb (dC (.str "")) (qb (dC (.str "A")) (qb (dC (.str "abcdefg")) (qb (dC (.int 1)) (qb (d2 ixD (qd 2) (dC (.int 0))) (qb (dC (.str "a b")) (qb (gq (qb (dC (.str "a")) qB)) (qb (dC (.str "ab")) (qb (dC (.str "a{")) (qb (dC (.str "abc")) qB)))))))))))))
  (jl (vR 6 (d2 uF (d2 uF (vM (qd 2) d6 (d4 (qd 4)) d6) (gq (qb (qw [.vl,.sl 1,.vl] vX (qb (qd 0) (kt (qb (qd 5) qB)))) qB))) (vM (qd 2) (d4 (d2 uF (qd 4) (dC (.int 1)))) d6 d6)))
  (jl (vR 6 (qw [.vl,.sl 1,.vl] vX (qb (qd 0) (kt (qb (yu (qb (qd 6) (qb (qd 6) (qb (qd 6) (qb (d1 Ui (qd 2)) (qb (gq qB) (qb (d2 qad (qd 2) (dC (.int 4))) (qb (dC (.str "words")) (qb (dC .non) (qb (d2 uF (qd 2) (vM (qd 2) d6 (d4 (dC (.int 1))) d6)) qB)))))))))) qB)))))
  (jl (sIf (yF (qw [.vl] kg (qb (qd 6) qB))) (jI (d2 eqD (qw [.vl,.vl,.vl] (kS ca) (qb (dC (.int 0)) (qb (qd 6) (qb (qd 3) qB)))) (qw [.vl,.vl] vD (qb (qd 6) (qb (qd 3) qB))))) jq)
  (jl (sIf (jp (d2 neD (jX [1] 1 [6,3] (kF (dC (.int 11))) (gNm 0) ftT (qw [.vl,.vl,.vl] (kS ca) (qb (qd 0) (qb (qd 1) (qb (qd 2) qB))))) (d2 Zy (yu λρ=>.ok ([(.tup [(.str "refused"),(.int 0)])],ρ)) (dC (.int 11))))) (jI (dC (.bl d7))) jq)
  (jl (vR 6 (yu λρ=>.ok ([.non,(.tup []),(.tup [(.int 0)]),(.lst [(.int 0),(.int 0)]),(.tup [(.int 0),(.int 3)]),(.tup [(.int (-4)),(.int 0)]),(.tup [(.int 0),(.bl d8)]),(.tup [(.str "0"),(.int 0)]),(.tup [(.int 0),(.int 0),(.int 0)]),(.tup [.non,(.int 0)]),(.int 0)],ρ)))
  (jl (vR 7 (qw [.vl,.sl 1,.vl] vX (qb (qd 0) (kt (qb (qd 6) qB)))))
  (jI (d2 eqD (jX [1] 1 [2,7] (uy (d2 uF (d1 wz (dC (.int 10))) (yu (qb (dC (.int 11)) qB)))) (gNm 0) ftT (qw [.vl,.vl,.vl] (kS ca) (qb (qd 0) (qb (qd 1) (qb (qd 2) qB))))) (d2 Zy (yu λρ=>.ok ([(.tup [(.str "refused"),(.int 1)])],ρ)) (dC (.int 11)))))))))))))))))
noncomputable abbrev UV (ca:Str->Addr):je:=jA Zl [.val] (Zm ca)
theorem qam {f:Addr} {fd:fA} (Z:ZtE e0 ca) (F:Fun e0.K "law" "law" Wf f fd) (j:vC e0) (q:uJ e0) (W:zA e0) (b:QH e0) (a:zB e0) (o:We ca e0) (J:wJ e0):FnOk e0.P e0.w e0.K e0.mg e0.base (CXk e0.P e0.w) 10 f fd qak (spD e0.K e0.cv [.val] .sh (UV ca)):=
 qaz (k:=9) (own':=[]) (fb:=Zm ca) F qal rfl (jm rfl) (.inl rfl) (λcdv A outer s H E h=>(qe (sO (jO qc))
  (qe (se (cN W (qa vr (sl (qa qo qc)))))
  (qe (se (cN b (qa vr (sl qc))))
  (qe (qT (jc (KB rfl h.units) (cN o (qa qo (qa vr (qa vr qc)))) (cN a (qa vr (qa vr qc)))) (qm (qp yv)) qD)
  (qe (se (cN j (qa vr (sl (qa (qy (jG rfl) rfl Z.z_len jy vr) qc)))))
  (qe (se (jO (qa vK (qa qU (qa qU (qa qU (qa qo (qa (ix vr qo) (qa qU (qa (wm (qa qU qc)) (qa qU (qa qU (qa qU qc)))))))))))))
  (qe (se (qR (jx rfl) (qR (jx rfl) (vA rfl vr jv (ka vr) jv) (wm (qa (cN q (qa vr (sl (qa vr qc)))) qc))) (vA rfl vr (ka (qR (jx rfl) vr qo)) jv jv)))
  (qe (se (cN q (qa vr (sl (qa (jO (qa vr (qa vr (qa vr (qa (zi (Xy rfl) rfl Z.z_list VH vr) (qa (wm qc) (qa (qR (XX rfl) vr qo) (qa qU (qa vK (qa (qR (jx rfl) vr (vA rfl vr jv (ka qo) jv)) qc)))))))))) qc)))))
  (qe (qT (tv (cN J (qa vr qc))) (qm (qp (zc (ze rfl h.units) (cN o (qa qo (qa vr (qa vr qc)))) (cN a (qa vr (qa vr qc)))))) qD)
  (qe (qT (jc (KB rfl h.units) (cmp (wR rfl Z.z_range qo) (λ_ _ _ _=>(qZ o h (by decide) uW rfl (qa vr (qa vr (qa vr qc)))))) (qR (Vx rfl) (gJ 10 rfl) qo)) (qm (qp yv)) qD)
  (qe (se (gJ 19 rfl))
  (qe (se (cN q (qa vr (sl (qa vr qc)))))
  (qm (qp (zc (ze rfl h.units) (cmp (km rfl (qR (jx rfl) (Jw rfl rfl Z.z_list VH rfl Z.z_range UG qo) (jO (qa qo qc)))) (λ_ _ _ _=>(qZ o h (by decide) uW rfl (qa vr (qa vr (qa vr qc)))))) (qR (Vx rfl) (gJ 10 rfl) qo))))))))))))))))) λ_=>.inr rfl
end
end Kx
namespace Kx
open PySem PySem.Spec L2 L2.D2
variable {ρ:Sl} {ds:List D} {d:D} {ms:List PM} {n:Nat} {i:Int} {y:Str}
section
variable {as:List AK} {os:List D} {j:Int} {x:Str} {b:Bool} {ks:List (Key×D)}
@[simp] theorem qcF:jB [] [] ρ=d4 []:=rfl
@[simp] theorem qcG:jB (.sl n::as) (d::ds) ρ=match ρ[n]? with | some (d4 d)=>(jB as ds ρ).map (d::·) | _=>none:=rfl
@[simp] theorem qcH:jB (.vl::as) (d::ds) ρ=(jB as ds ρ).map (d::·):=rfl
@[simp] theorem qcI:jB (.fr::as) (d::ds) ρ=(jB as ds ρ).map (d::·):=rfl
@[simp] theorem qcJ:uG [] [] ρ=ρ:=rfl
@[simp] theorem qcK:uG (.sl n::as) (d::ds) ρ=uG as ds (ρ.set n (d4 d)):=rfl
@[simp] theorem qcL:uG (.vl::as) (d::ds) ρ=uG as ds ρ:=rfl
@[simp] theorem qcM:uG (.fr::as) (d::ds) ρ=uG as ds ρ:=rfl
@[simp] theorem qcN:jh ρ n []=[]:=rfl
@[simp] theorem qcO:jh ρ n (.io::ms)=((ρ[n]?).getD d6).getD .non::jh ρ (n+1) ms:=rfl
@[simp] theorem qcP:jh ρ n (.val::ms)=.non::jh ρ (n+1) ms:=rfl
@[simp] theorem qcQ:jh ρ n (.tk::ms)=.non::jh ρ (n+1) ms:=rfl
@[simp] theorem qcR:uF (.int i) (.int j)=.ok (.int (i+j)):=rfl
@[simp] theorem qcS:uF (.str x) (.str y)=if x.length+y.length<=sizeLine then .ok (.str (x++y)) else .bad:=rfl
@[simp] theorem qcT:uF (.lst ds) (.lst os)=if ds.length+os.length<=sizeLine then .ok (.lst (ds++os)) else .bad:=rfl
@[simp] theorem qcU:uF (.tup ds) (.tup os)=if ds.length+os.length<=sizeLine then .ok (.tup (ds++os)) else .bad:=rfl
@[simp] theorem qcV:qbc .non .non=.ok (.bl d8):=rfl
@[simp] theorem qcW:qbc (.tup ds) .non=.ok (.bl d7):=rfl
@[simp] theorem qcX:qbc (.dct ks) .non=.ok (.bl d7):=rfl
@[simp] theorem qcY:WS .non .non=.ok (.bl d7):=rfl
@[simp] theorem qcZ:WS (.tup ds) .non=.ok (.bl d8):=rfl
@[simp] theorem ylI:ltD (.int i) (.int j)=.ok (.bl (decide (i < j))):=rfl
@[simp] theorem ylS:ltD (.str x) (.str y)=.ok (.bl (vQ x y)):=rfl
@[simp] theorem yeI:leD (.int i) (.int j)=.ok (.bl (decide (i<=j))):=rfl
@[simp] theorem yeS:leD (.str x) (.str y)=.ok (.bl (!vQ y x)):=rfl
@[simp] theorem ygI:gtD (.int i) (.int j)=.ok (.bl (decide (j < i))):=rfl
@[simp] theorem ysI:Wq (.int i) (.int j)=.ok (.int (i - j)):=rfl
@[simp] theorem ytB:JL (.bl b)=.ok b:=rfl
@[simp] theorem ytI:JL (.int i)=.ok (i != 0):=rfl
@[simp] theorem ytN:JL .non=.ok false:=rfl
@[simp] theorem ytL:JL (.lst ds)=.ok (!ds.isEmpty):=rfl
@[simp] theorem ytT:JL (.tup ds)=.ok (!ds.isEmpty):=rfl
@[simp] theorem ynS:uU (.str x)=.ok (.int x.length):=rfl
@[simp] theorem ynL:uU (.lst ds)=.ok (.int ds.length):=rfl
@[simp] theorem ynT:uU (.tup ds)=.ok (.int ds.length):=rfl
@[simp] theorem ynD:uU (.dct ks)=.ok (.int ks.length):=rfl
end
variable {α:Type}
theorem yn (xs:List α) (k:Nat):atI xs (k:Int)=xs[k]?:=by
 unfold atI ixN;rw [Aa (by lia)];by_cases h:k < xs.length;·rw [Aa (by lia)];simp
 ·rw [Ab (by lia),List.getElem?_eq_none (by lia)];rfl
theorem Yv {xs:List α} (a:0<=i) (h1:i < xs.length):∃ d,atI xs i=d4 d/\d∈xs:=by
 obtain ⟨k,rfl⟩:=Int.eq_ofNat_of_zero_le a;have h:k < xs.length:=by lia
 exact ⟨xs[k],by rw [yn,aU h],dr h⟩
theorem big:2000<=sizeLine:=by rw [ff]; decide
abbrev scr (ns:List Int):D:=.lst (ns.map .int)
theorem Zn (ns:List Int) (k:Nat):∃ i,wV [scr ns,.int k]=.ok (.int i,[.non,.non]):=by
 by_cases h:k < ns.length;·refine ⟨ns[k],?_⟩;refine qr.trans ?_;simp [vB,qf,ixD,h,yn]
 ·by_cases a:ns=[]
  ·subst a;have b:¬((k:Int) < 0):=by lia
   exact ⟨0,by refine qr.trans ?_; simp [vB,qf,ixD,eqD,eqN,vH,b]⟩
  ·have hp:0 < ns.length:=List.length_pos_iff.mpr a;have c:k % ns.length < ns.length:=Nat.mod_lt _ hp;have e:atI (ns.map D.int) ((k:Int) % (ns.length:Int))=d4 (.int ns[k % ns.length]):=by rw [show ((k:Int) % (ns.length:Int))=((k % ns.length:Nat):Int) by simp,yn,aM,aU c];rfl
   refine ⟨ns[k % ns.length] * 31+k,?_⟩;refine qr.trans ?_;simp [vB,qf,ixD,eqD,eqN,h,a,Xa,Ym,uS,hp,e,CMul]
variable {many:Int}
theorem UW (ns:List Int) (k:Nat) (h:0 < many):∃ r,0<=r/\r < many/\xq [scr ns,.int k,.int many]=.ok (.int r,[.non,.non,.non]):=by obtain ⟨c,a⟩:=Zn ns k;have h1:=Int.emod_nonneg ((c+7919 * k+1) * 48271) (show (2147483647:Int)≠0 by decide);have h2:=Int.emod_lt_of_pos ((c+7919 * k+1) * 48271) (show (0:Int) < 2147483647 by decide);generalize hd:(c+7919 * (k:Int)+1) * 48271 % 2147483647=d at h1 h2;have l:CMul d d:=.inl ⟨by lia,by lia⟩;refine ⟨(d * d+7 * d+k) % 2147483629 % many,Int.emod_nonneg _ (by lia),Int.emod_lt_of_pos _ h,?_⟩;refine qr.trans ?_;simp [QE,qf,a,Ym,Xa,uS,h,hd,l,show ∀ j,CMul 7919 j from λj=>.inl ⟨by lia,by lia⟩,show ∀ j,CMul 7 j from λj=>.inl ⟨by lia,by lia⟩,show ∀ i,CMul i 48271 from λi=>.inr ⟨by lia,by lia⟩]
theorem wb (ns:List Int) (t:List D) (c:0 < many) (m:t.length < 1000):∃ r,0<=r/\r < many/\kn [scr ns,.lst t,.int many]=.ok (.int r,[.non,.lst (t++[.int 0]),.non]):=by obtain ⟨r,a,h1,h⟩:=UW ns (t.length+1) c;have hl:t.length < sizeLine:=au (Nat.lt_trans m (by decide)) big;refine ⟨r,a,h1,?_⟩;simp at h;refine qr.trans ?_;simp [VL,qf,yx,Vg,hl,h]
theorem yo (ns:List Int) (t xs:List D) (hx:xs≠[]) (m:t.length < 1000):∃ d,d∈xs/\vX [scr ns,.lst t,.lst xs]=.ok (d,[.non,.lst (t++[.int 0]),.non]):=by have hp:0 < xs.length:=List.length_pos_iff.mpr hx;obtain ⟨r,a,h1,h⟩:=wb ns t (many:=(xs.length:Int)) (by lia) m;obtain ⟨d,e,hd⟩:=Yv (xs:=xs) a h1;refine ⟨d,hd,?_⟩;refine qr.trans ?_;simp [VM,qf,h,ixD,e]
def az (c:Nat):Prop:=97<=c/\c<=122
def Wt (w:Str):Prop:=1<=w.length/\w.length<=6/\∀ c∈w.cps.toList,az c
theorem jW (x:Str):x.length=x.cps.size:=rfl
theorem Qb (x y:Str):(x++y).cps=x.cps++y.cps:=rfl
theorem yp:∀ ws:List Str,zw (ws.map D.str)=d4 ws
 | []=>rfl
 | w::ws=>by simp [zw,yp ws]
theorem wK (w:Str):∀ ws:List Str,zf 7 (.str w) (ws.map D.str)=d4 (decide (w∈ws))
 | []=>by simp [zf]
 | a::ws=>by
  have l:=wK w ws;simp only [aJ,zf,l];simp [eqN,eqS];by_cases h:a=w;·simp [h]
  ·simp [h,be h]
def kN (ws:List Str):Prop:=1<=ws.length/\ws.length<=6/\ws.Nodup/\∀ w∈ws,Wt w
theorem Zo:(aY "abcdefghijklmnopqrstuvwxyz").cps.toList.length=26:=by decide +kernel
theorem qan:∀ c∈(aY "abcdefghijklmnopqrstuvwxyz").cps.toList,az c:=by unfold az;decide +kernel
abbrev qao:qP:=(vR 3 (d2 uF (qd 3) (d2 ixD (dC (.str "abcdefghijklmnopqrstuvwxyz")) (qw [.vl,.sl 1,.vl] kn (qb (qd 0) (kt (qb (qd 2) qB)))))))
variable {few:Int}
theorem zW (ns:List Int) (h:0 < few) (h1:few<=26):∀ (ds:List D) (t:List D) (w:Str) (k:Option D),t.length+ds.length < 1000->w.length+ds.length<=100->(∀ c∈w.cps.toList,az c) ->∃ a T k',a.length=t.length+ds.length/\T.length=w.length+ds.length/\(∀ c∈T.cps.toList,az c)/\yw (gNm 4) qao ds [d4 (scr ns),d4 (.lst t),d4 (.int few),d4 (.str w),k]=.ok (.nx,[d4 (scr ns),d4 (.lst a),d4 (.int few),d4 (.str T),k'])
 | [],t,w,k,_,_,hw=>⟨t,w,k,rfl,rfl,hw,rfl⟩
 | d::ds,t,w,k,ht,hl,hw=>by
  rw [aw] at ht hl;obtain ⟨r,r0,r1,f⟩:=wb ns t (many:=few) h (by lia);obtain ⟨c,b,m⟩:=Yv (xs:=(aY "abcdefghijklmnopqrstuvwxyz").cps.toList) (i:=r) r0 (by rw [Zo]; lia);obtain ⟨a,T,k',o,e,z,y⟩:=zW ns h h1 ds (t++[.int 0]) (w++⟨#[c]⟩) (d4 d) (by rw [ai]; simp; lia) (by rw [jW,Qb,Array.size_append]; rw [jW] at hl; simp; lia) (λx hx=>by
   rw [Qb,Array.toList_append,aP] at hx;rcases hx with hx | hx;·exact hw x hx
   ·simp at hx;rw [hx];exact qan c m)
  refine ⟨a,T,k',?_,?_,z,?_⟩
  ·rw [o,ai,aw];simp
   lia
  ·rw [e,jW,Qb,Array.size_append,<-jW,aw];simp
   lia
  ·have C:w.length+du ⟨#[c]⟩<=sizeLine:=by
    have:=big;simp [jW] at hl ⊢
    lia
   rw [<-y];simp [yw,qao,f,ixD,b,C]
theorem Zp (ns:List Int) (t:List D) (b:0 < few) (h1:few<=26) (e:t.length < 900):∃ w a,Wt w/\a.length<=t.length+8/\xr [scr ns,.lst t,.int few]=.ok (.str w,[.non,.lst a,.non]):=by
 obtain ⟨d,hd,hp⟩:=yo ns t [.int 2,.int 3,.int 6] (by simp) (by lia);obtain ⟨m,rfl,m0,m1⟩:∃ m:Int,d=.int m/\0 < m/\m<=6:=by
  simp at hd;rcases hd with rfl | rfl | rfl;·exact ⟨2,rfl,by lia,by lia⟩
  ·exact ⟨3,rfl,by lia,by lia⟩
  ·exact ⟨6,rfl,by lia,by lia⟩
 obtain ⟨r,r0,r1,f⟩:=wb ns (t++[.int 0]) (many:=m) m0 (by rw [ai]; simp; lia);have n:(zZ 0 (1+r).toNat).length=(1+r).toNat:=by simp [zZ]
 have e0:du (aY "")=0:=by decide +kernel
 obtain ⟨a,T,k',o,k,z,y⟩:=zW ns b h1 (zZ 0 (1+r).toNat) (t++[.int 0]++[.int 0]) "" d6 (by rw [n,ai,ai]; simp; lia) (by rw [n,e0]; lia) (by
  have:(aY "").cps.toList=[]:=by decide +kernel
  rw [this];intro c h;cases h)
 refine ⟨T,a,⟨?_,?_,z⟩,?_,?_⟩
 ·rw [k,e0,n]
  lia
 ·rw [k,e0,n]
  lia
 ·rw [o,n,ai,ai];simp
  lia
 ·refine qr.trans ?_;have l:-(2 ^ 62:Int)<=1+r/\1+r < 2 ^ 62:=by lia
  have g:=big;have C:3<=sizeLine:=by lia
  simp only [bV,cH,cW] at y f;simp [VN,qf,hp,f,kF,-Int.reducePow,l,C,y]
abbrev Wg:qP:=(jl (vR 6 (qw [.vl,.sl 1,.vl] xr (qb (qd 0) (kt (qb (qd 3) qB)))))
  (sIf (jp (d2 Yr (qd 6) (qd 4))) (wl (Vf 4 Vg (qd 6))) jq))
theorem uc (ns:List Int) (m:D) (f:0 < few) (h1:few<=26):∀ (ds:List D) (n:List D) (ws:List Str) (k u:Option D),n.length+8 * ds.length < 900->ws.length+ds.length<=100->ws.Nodup->(∀ w∈ws,Wt w) ->∃ (t:List D) (c:List Str) (k' W:Option D),t.length<=n.length+8 * ds.length/\c.length<=ws.length+ds.length/\ws.length<=c.length/\(ds≠[]->1<=c.length)/\c.Nodup/\(∀ w∈c,Wt w) /\
   yw (gNm 5) Wg ds [d4 (scr ns),d4 (.lst n),d4 m,d4 (.int few),d4 (.lst (ws.map D.str)),k,u]=.ok (.nx,[d4 (scr ns),d4 (.lst t),d4 m,d4 (.int few),d4 (.lst (c.map D.str)),k',W])
 | [],n,ws,k,u,_,_,hn,hw=>⟨n,ws,k,u,by simp,by simp,by simp,by simp,hn,hw,rfl⟩
 | d::ds,n,ws,k,u,ht,hl,hn,hw=>by
  rw [aw] at ht hl;obtain ⟨w,j,s,p,hg⟩:=Zp ns n f h1 (by lia);have o:=big;have C:ws.length < sizeLine:=by lia
  by_cases h:w∈ws
  ·obtain ⟨t,c,k',W,v,i,e,y,q,l,g⟩:=uc ns m f h1 ds j ws (d4 d) (d4 (.str w)) (by lia) (by lia) hn hw;refine ⟨t,c,k',W,by rw [aw]; lia,by rw [aw]; lia,e,λ_=>?_,q,l,?_⟩
   ·have:0 < ws.length:=List.length_pos_of_mem h
    lia
   ·rw [<-g];simp [yw,Wg,hg,Yr,Jh,inD,wK,h]
  ·obtain ⟨t,c,k',W,v,i,e,y,q,l,g⟩:=uc ns m f h1 ds j (ws++[w]) (d4 d) (d4 (.str w)) (by lia) (by rw [ai]; simp; lia) (List.nodup_append.mpr ⟨hn,by simp,λa r b o=>by
    rw [bg.mp o];exact λz=>h (z ▸ r)⟩) (λx hx=>by
    rcases aP.mp hx with hx | hx;·exact hw x hx
    ·rw [bg.mp hx];exact s)
   rw [ai] at i e;simp at i e;refine ⟨t,c,k',W,by rw [aw]; lia,by rw [aw]; lia,by lia,λ_=>by lia,q,l,?_⟩;rw [<-g];simp [yw,Wg,hg,Yr,Jh,inD,wK,h,yx,Vg,C]
theorem UX (ns:List Int) (t:List D) (h:t.length < 700):∃ ws a,kN ws/\a.length<=t.length+50/\xw [scr ns,.lst t,.int 6]=.ok (.tup (ws.map D.str),[.non,.lst a,.non]):=by
 obtain ⟨d,hd,hp⟩:=yo ns t [.int 2,.int 3,.int 4,.int 6,.int 26] (by simp) (by lia);obtain ⟨m,rfl,m0,m1⟩:∃ m:Int,d=.int m/\0 < m/\m<=26:=by
  simp at hd;rcases hd with rfl | rfl | rfl | rfl | rfl;·exact ⟨2,rfl,by lia,by lia⟩
  ·exact ⟨3,rfl,by lia,by lia⟩
  ·exact ⟨4,rfl,by lia,by lia⟩
  ·exact ⟨6,rfl,by lia,by lia⟩
  ·exact ⟨26,rfl,by lia,by lia⟩
 obtain ⟨r,r0,r1,f⟩:=wb ns (t++[.int 0]) (many:=6) (by lia) (by rw [ai]; simp; lia);have n:(zZ 0 (1+r).toNat).length=(1+r).toNat:=by simp [zZ]
 obtain ⟨a,c,k',W,o,b,j,y,q,g,k⟩:=uc ns (.int 6) m0 m1 (zZ 0 (1+r).toNat) (t++[.int 0]++[.int 0]) [] d6 d6 (by rw [n,ai,ai]; simp; lia) (by rw [n]; simp; lia) da (by simp);have e:zZ 0 (1+r).toNat≠[]:=λz=>by
  rw [z] at n;simp at n
  lia
 refine ⟨c,a,⟨y e,?_,q,g⟩,?_,?_⟩
 ·rw [n] at b;simp at b
  lia
 ·rw [n,ai,ai] at o;simp at o
  lia
 ·refine qr.trans ?_;have l:-(2 ^ 62:Int)<=1+r/\1+r < 2 ^ 62:=by lia
  have i:=big;have C:5<=sizeLine:=by lia
  simp only [bV,cH,cW,bt] at k f;simp [QG,qf,hp,f,kF,-Int.reducePow,l,C,k,Vi]
def Yi (p q:Int):Prop:=(-3<=p/\p<=2)/\-3<=q/\q<=2
theorem Zq (ns:List Int) (t:List D) (m:t.length < 900):∃ p q a,Yi p q/\a.length=t.length+2/\gP [scr ns,.lst t]=.ok (.tup [.int p,.int q],[.non,.lst a]):=by
 obtain ⟨r,r0,r1,h⟩:=wb ns t (many:=6) (by lia) (by lia);obtain ⟨u,b,i,f⟩:=wb ns (t++[.int 0]) (many:=6) (by lia) (by rw [ai]; simp; lia);have d:=big;have C:2<=sizeLine:=by lia
 refine ⟨r - 3,u - 3,t++[.int 0,.int 0],⟨⟨by lia,by lia⟩,by lia,by lia⟩,by simp,?_⟩;refine qr.trans ?_;simp only [bV,cH,cW] at f;simp [VP,qf,h,f,uS,C]
noncomputable def yU (n:Nat) (p:Int):Nat:=(max 0 (min (if 0<=p then p else (n:Int)+p) ((n:Int) - 1))).toNat
noncomputable def JO (w:Str) (p:Int):Str:=⟨#[(w.cps.toList[yU w.length p]?).getD 0]⟩
variable {w:Str}
theorem uv (h:Wt w) (p:Int):jU [.str w,.int p]=.ok (.str (JO w p),[.non,.non]):=by
 have h1:=h.1;have a:(w.cps.toList.length:Int)=w.length:=by simp [jW]
 have key:∀ q:Int,q=(if 0<=p then p else (w.length:Int)+p)->atI w.cps.toList (if 0 < (if (w.length:Int) - 1 < q then (w.length:Int) - 1 else q) then (if (w.length:Int) - 1 < q then (w.length:Int) - 1 else q) else 0)=d4 ((w.cps.toList[yU w.length p]?).getD 0):=by
  intro q hq;have e:(if 0 < (if (w.length:Int) - 1 < q then (w.length:Int) - 1 else q) then (if (w.length:Int) - 1 < q then (w.length:Int) - 1 else q) else 0)=(yU w.length p:Int):=by
   unfold yU;rw [<-hq];have:1<=(w.length:Int):=by omega
   generalize (w.length:Int)=n at *;split <;> split <;> omega
  have hl:yU w.length p < w.cps.toList.length:=by
   have F:w.cps.toList.length=w.length:=by simp [jW]
   rw [F];unfold yU;omega
  rw [e,yn,aU hl];rfl
 refine qr.trans ?_;by_cases hp:0<=p;·have k:=key p (by rw [Aa hp]);simp [wa,qf,geD,uS,hp,qaC,qaD,ixD,k,JO]
 ·have k:=key (w.length+p) (by rw [Ab hp]);simp [wa,qf,geD,uS,hp,qaC,qaD,ixD,k,JO]
theorem Wh (h:Wt w):(∃ a,w=⟨#[a]⟩)\/(∃ a b,w=⟨#[a,b]⟩)\/(∃ a b c,w=⟨#[a,b,c]⟩)\/(∃ a b c d,w=⟨#[a,b,c,d]⟩)\/(∃ a b c d e,w=⟨#[a,b,c,d,e]⟩)\/∃ a b c d e f,w=⟨#[a,b,c,d,e,f]⟩:=by
 obtain ⟨⟨l⟩⟩:=w;have h1:1<=l.length:=h.1;have h2:l.length<=6:=h.2.1
 match l,h1,h2 with
 | [a],_,_=>exact .inl ⟨a,rfl⟩
 | [a,b],_,_=>exact .inr (.inl ⟨a,b,rfl⟩)
 | [a,b,c],_,_=>exact .inr (.inr (.inl ⟨a,b,c,rfl⟩))
 | [a,b,c,d],_,_=>exact .inr (.inr (.inr (.inl ⟨a,b,c,d,rfl⟩)))
 | [a,b,c,d,e],_,_=>exact .inr (.inr (.inr (.inr (.inl ⟨a,b,c,d,e,rfl⟩))))
 | [a,b,c,d,e,f],_,_=>exact .inr (.inr (.inr (.inr (.inr ⟨a,b,c,d,e,f,rfl⟩))))
variable {own:List Nat}
theorem yV (ρc:Sl):∀ (cap:List Nat) (n:Nat) (ρ:Sl),(∀ k∈cap,k∉own)->jH own ρc n cap ρ=ρ
 | [],n,ρ,_=>rfl
 | k::cap,n,ρ,h=>by unfold jH;rw [Ab (h k (aI ..))];exact yV ρc cap (n+1) ρ λx hx=>h x (ac _ hx)
theorem qap {fe:qM} {ft:uE} {P:D->Bool} {F:D->D} {c:Sl}:∀ (ds:List D) (x:Option D),(∀ d∈ds,ft (d4 d::c)=.ok (P d,d4 d::c))->(∀ d∈ds,P d=d8->fe (d4 d::c)=.ok (F d,d4 d::c))->∃ n,kj (gNm 0) ft fe ds (x::c)=.ok ((ds.filter P).map F,n::c)
 | [],x,_,_=>⟨x,rfl⟩
 | d::ds,x,h,h'=>by
  obtain ⟨n,e⟩:=qap ds (d4 d) (λd' hd=>h d' (ac _ hd)) λd' hd=>h' d' (ac _ hd);refine ⟨n,?_⟩;have h1:=h d (aI ..);have h2:=h' d (aI ..);cases q:P d with
  | true=>simp [kj,KW,h1,q,h2 q,e]
  | false=>simp [kj,KW,h1,q,e]
variable {cap:List Nat} {ρ1:Sl}
theorem qaq {fi:kP} {fe:qM} {ft:uE} (P:D->Bool) (F:D->D) (s:∀ k∈cap,k∉own) (h:fi ρ=.ok (ds,ρ1)) (hl:ds.length<=sizeLine)
  (m:∀ d∈ds,ft (d4 d::cap.map λk=>(ρ1[k]?).getD d6)=.ok (P d,d4 d::cap.map λk=>(ρ1[k]?).getD d6)) (i:∀ d∈ds,P d=d8->fe (d4 d::cap.map λk=>(ρ1[k]?).getD d6)=.ok (F d,d4 d::cap.map λk=>(ρ1[k]?).getD d6)) :
  jX own 1 cap fi (gNm 0) ft fe ρ=.ok (.lst ((ds.filter P).map F),ρ1):=by
 obtain ⟨n,e⟩:=qap ds d6 m i;unfold jX;rw [h];simp only [Ju];rw [Aa hl,show ki 1 cap ρ1=d6::cap.map λk=>(ρ1[k]?).getD d6 from rfl,e];simp only [Ju,yV _ _ _ _ s]
theorem Wi {fi:kP} {fe:qM} (F:D->D) (s:∀ k∈cap,k∉own) (h:fi ρ=.ok (ds,ρ1)) (hl:ds.length<=sizeLine) (m:∀ d∈ds,fe (d4 d::cap.map λk=>(ρ1[k]?).getD d6)=.ok (F d,d4 d::cap.map λk=>(ρ1[k]?).getD d6)):jX own 1 cap fi (gNm 0) ftT fe ρ=.ok (.lst (ds.map F),ρ1):=by have e:=qaq (ft:=ftT) (λ_=>d8) F s h hl (λ_ _=>rfl) λd hd _=>m d hd;rw [List.filter_eq_self.mpr λ_ _=>rfl] at e;exact e
theorem wL {fi:kP} {fe:qM} (F:D->D) (h:fi ρ=.ok (ds,ρ1)) (hl:ds.length<=sizeLine) (m:∀ d∈ds,fe (d4 d::cap.map λk=>(ρ1[k]?).getD d6)=.ok (F d,d4 d::cap.map λk=>(ρ1[k]?).getD d6)):jX [] 1 cap fi (gNm 0) ftT fe ρ=.ok (.lst (ds.map F),ρ1):=Wi F (λ_ _=>by simp) h hl m
noncomputable def yD (ws:List Str) (p q:Int):List (Str×Str):=ws.map λw=>(JO w p,JO w q)
noncomputable def vJ (l:List (Str×Str)):List D:=l.map λx=>.tup [.str x.1,.str x.2]
theorem kO (h:n<=2000):n<=sizeLine:=br h big
abbrev Wd (ws:List Str):D:=.tup (ws.map D.str)
abbrev Ld (p q:Int):D:=.tup [.int p,.int q]
variable {ws:List Str} {p q:Int}
theorem JG {G:je} (h:kN ws) (a:∀ w∈ws,G [.str w,.int p]=.ok (.str (JO w p),[.non,.non])/\G [.str w,.int q]=.ok (.str (JO w q),[.non,.non])):jX [] 1 [1] (uy (qd 0)) (gNm 0) ftT (gq (qb (qw [.vl,.vl] G (qb (qd 0) (qb (d2 ixD (qd 1) (dC (.int 0))) qB))) (qb (qw [.vl,.vl] G (qb (qd 0) (qb (d2 ixD (qd 1) (dC (.int 1))) qB))) qB))) [d4 (Wd ws),d4 (Ld p q)]
   = .ok (.lst (vJ (yD ws p q)),[d4 (Wd ws),d4 (Ld p q)]):=by
 have e:=wL (cap:=[1]) (fi:=uy (qd 0)) (ρ:=[d4 (Wd ws),d4 (Ld p q)]) (ρ1:=[d4 (Wd ws),d4 (Ld p q)]) (ds:=ws.map D.str)
  (fe:=(gq (qb (qw [.vl,.vl] G (qb (qd 0) (qb (d2 ixD (qd 1) (dC (.int 0))) qB))) (qb (qw [.vl,.vl] G (qb (qd 0) (qb (d2 ixD (qd 1) (dC (.int 1))) qB))) qB))))
  (λd=>match d with | .str w=>.tup [.str (JO w p),.str (JO w q)] | d=>d) (by simp [jR]) (by rw [ay]; exact kO (by have:=h.2.1; lia)) (λd hd=>by obtain ⟨w,c,rfl⟩:=aF.mp hd;obtain ⟨h1,h2⟩:=a w c;have C:2<=sizeLine:=kO (by lia);simp [ixD,atI,ixN,h1,h2,C])
 rw [e];simp [vJ,yD]
def Pl:D->Prop
 | .raw _=>False
 | .xcp _=>False
 | .ins _ _=>False
 | .dct _=>False
 | .at_ _ _=>False
 | _=>True
@[simp] theorem kk1:jt "NoneType" "int"=d4 false:=by decide +kernel
@[simp] theorem kk2:jt "bool" "int"=d4 true:=by decide +kernel
@[simp] theorem kk3:jt "int" "int"=d4 true:=by decide +kernel
@[simp] theorem kk4:jt "str" "int"=d4 false:=by decide +kernel
@[simp] theorem kk5:jt "tuple" "int"=d4 false:=by decide +kernel
@[simp] theorem kk6:jt "list" "int"=d4 false:=by decide +kernel
@[simp] theorem kb1:jt "NoneType" "bool"=d4 false:=by decide +kernel
@[simp] theorem kb2:jt "bool" "bool"=d4 true:=by decide +kernel
@[simp] theorem kb3:jt "int" "bool"=d4 false:=by decide +kernel
@[simp] theorem kb4:jt "str" "bool"=d4 false:=by decide +kernel
@[simp] theorem kb5:jt "tuple" "bool"=d4 false:=by decide +kernel
@[simp] theorem kb6:jt "list" "bool"=d4 false:=by decide +kernel
@[simp] theorem ks1:jt "NoneType" "str"=d4 false:=by decide +kernel
@[simp] theorem ks2:jt "bool" "str"=d4 false:=by decide +kernel
@[simp] theorem ks3:jt "int" "str"=d4 false:=by decide +kernel
@[simp] theorem ks4:jt "str" "str"=d4 true:=by decide +kernel
@[simp] theorem ks5:jt "tuple" "str"=d4 false:=by decide +kernel
@[simp] theorem ks6:jt "list" "str"=d4 false:=by decide +kernel
@[simp] theorem kt1:jt "NoneType" "tuple"=d4 false:=by decide +kernel
@[simp] theorem kt2:jt "bool" "tuple"=d4 false:=by decide +kernel
@[simp] theorem kt3:jt "int" "tuple"=d4 false:=by decide +kernel
@[simp] theorem kt4:jt "str" "tuple"=d4 false:=by decide +kernel
@[simp] theorem kt5:jt "tuple" "tuple"=d4 true:=by decide +kernel
@[simp] theorem kt6:jt "list" "tuple"=d4 false:=by decide +kernel
noncomputable def zX:D->Bool
 | .str x=>decide (x.length=1)&&(!vQ x "a"&&!vQ "z" x)
 | _=>d7
noncomputable def Yw (lo hi:Int):D->Bool
 | .int i=>decide (lo<=i)&&decide (i<=hi)
 | _=>d7
theorem uw (h:Pl d):jT [d]=.ok (.bl (zX d),[.non]):=by
 refine qr.trans ?_;cases d <;> first
  | exact h.elim
  | (simp [kG,qf,ku,tyN,zX]; done)
  | skip
 rename_i x;by_cases h1:x.length=1
 ·have c:(x.length:Int)=1:=by lia
  cases h2:vQ x "a" <;> simp [kG,qf,ku,tyN,eqD,eqN,eqS,zX,h1,c,h2]
 ·have c:¬(x.length:Int)=1:=by lia
  simp [kG,qf,ku,tyN,eqD,eqN,eqS,zX,h1,c]
theorem wM (h:Pl d) (lo hi:Int):jj [d,.int lo,.int hi]=.ok (.bl (Yw lo hi d),[.non,.non,.non]):=by
 refine qr.trans ?_;cases d <;> first
  | exact h.elim
  | (simp [vb,qf,ku,tyN,Yw]; done)
  | skip
 rename_i i;by_cases h1:lo<=i <;> simp [vb,qf,ku,tyN,Yw,h1]
variable {c:Nat}
theorem qar (h:az c):zX (.str ⟨#[c]⟩)=true:=by
 have g:(aY "a").cps.toList=[97]:=by decide +kernel
 have C:(aY "z").cps.toList=[122]:=by decide +kernel
 obtain ⟨h1,h2⟩:=h;have i:¬([c]:List Nat) < [97]:=by rw [cE];simp;omega
 have l:¬([122]:List Nat) < [c]:=by rw [cE];simp;omega
 have e1:vQ ⟨#[c]⟩ (aY "a")=false:=by unfold vQ;rw [g];exact Ac i
 have j:vQ (aY "z") ⟨#[c]⟩=false:=by unfold vQ;rw [C];exact Ac l
 simp [zX,jW,e1,j]
theorem yW (f:α->Bool):∀ l:List α,jZ (l.map λx=>.bl (f x))=d4 (l.map f)
 | []=>rfl
 | a::l=>by have i:=yW f l;simp [jZ,i]
theorem vF (f:α->Bool) (l:List α):JM (.lst (l.map λx=>.bl (f x)))=.ok (.bl (l.all f)):=by simp only [JM,yW];simp [List.all_map,Function.comp_def]
theorem JH (h:Wt w):kA [.str w]=.ok (.bl d8,[.non]):=by
 refine qr.trans ?_;have e:=wL (cap:=[]) (fi:=uy (qd 0)) (ρ:=[d4 (.str w)]) (ρ1:=[d4 (.str w)]) (ds:=vI w) (fe:=qw [.vl] jT (qb (qd 0) qB)) (λd=>.bl (zX d)) (by simp [jR]) (by
   have:=h.2.1;simp [vI,<-jW];exact kO (by lia)) (λd hd=>by
   obtain ⟨c,a,rfl⟩:=aF.mp hd;have h1:=uw (d:=.str ⟨#[c]⟩) trivial;simp [h1])
 have g:(vI w).all zX=true:=by rw [aL];intro d hd;obtain ⟨c,a,rfl⟩:=aF.mp hd;exact qar (h.2.2 c a)
 have h1:(1:Int)<=w.length:=by have:=h.1; lia
 have b:(w.length:Int)<=6:=by have:=h.2.1; lia
 simp only [kz,qf,aJ,bt,aw,aX,Nat.reduceAdd,cD,bA,aS];simp [ku,tyN,h1,b,e,vF,g]
theorem yq:∀ (ws ks:List Str),ws.Nodup->(∀ x∈ws,x∉ks)->ws.foldl gb ks=ks++ws
 | [],ks,_,_=>by simp
 | w::ws,ks,hn,hd=>by
  have h1:=aH.mp hn;rw [dB,show gb ks w=ks++[w] from Ab (hd w (aI ..)),yq ws (ks++[w]) h1.2 ?_];·simp
  ·intro x hx z;rcases aP.mp z with z | z;·exact hd x (ac _ hx) z
   ·rw [bg.mp z] at hx;exact h1.1 hx
theorem Qc (h:kN ws):kB [.tup (ws.map D.str)]=.ok (.bl d8,[.non]):=by
 refine qr.trans ?_;have e:=wL (cap:=[]) (fi:=uy (qd 0)) (ρ:=[d4 (.tup (ws.map D.str))]) (ρ1:=[d4 (.tup (ws.map D.str))]) (ds:=ws.map D.str) (fe:=qw [.vl] kA (qb (qd 0) qB)) (λd=>.bl d8) (by simp [jR]) (by
   rw [ay];exact kO (by have:=h.2.1; lia)) (λd hd=>by
   obtain ⟨w,c,rfl⟩:=aF.mp hd;have h1:=JH (h.2.2.2 w c);simp [h1])
 have h1:(1:Int)<=ws.length:=by have:=h.1; lia
 have b:(ws.length:Int)<=6:=by have:=h.2.1; lia
 have f:ws.foldl gb []=ws:=by rw [yq ws [] h.2.2.1 (by simp)]; simp
 have a:ws.length < 4000:=by lia
 have g:=vF (λ_:D=>d8) (ws.map D.str);simp only [ju,qf,aJ,bt,aw,aX,Nat.reduceAdd,cD,bA,aS];simp [-dv,ku,tyN,h1,b,e,g,wT,yM,yp,f,a,eqD,eqN,eqS]
theorem vP (w:kN ws):qI [.tup (ws.map D.str)]=.ok (.non,[.non]):=by refine qr.trans ?_;have h:=Qc w;simp [kJ,qf,h]
theorem JI (hl:Yi p q):yh [.tup [.int p,.int q]]=.ok (.bl d8,[.non]):=by
 refine qr.trans ?_;have e:=wL (cap:=[]) (fi:=uy (qd 0)) (ρ:=[d4 (.tup [.int p,.int q])]) (ρ1:=[d4 (.tup [.int p,.int q])]) (ds:=[.int p,.int q]) (fe:=qw [.vl,.vl,.vl] jj (qb (qd 0) (qb (dC (.int (-3))) (qb (dC (.int 2)) qB)))) (λd=>.bl (Yw (-3) 2 d)) (by simp [jR]) (kO (by simp)) (λd hd=>by
   have hd:d=.int p\/d=.int q:=by simpa using hd
   have h1:=wM (d:=.int p) trivial (-3) 2;have h2:=wM (d:=.int q) trivial (-3) 2;rcases hd with rfl | rfl;·simp [h1]
   ·simp [h2])
 have B:Yw (-3) 2 (.int p)=true:=by simp [Yw]; exact hl.1
 have A:Yw (-3) 2 (.int q)=true:=by simp [Yw]; exact hl.2
 simp only [zF,qf,aJ,bt,aw,aX,Nat.reduceAdd,cD,bA,aS];simp [ku,tyN,neD,eqN,eqS,e,JM,jZ,B,A]
theorem xN (hl:Yi p q):qW [.tup [.int p,.int q]]=.ok (.non,[.non]):=by refine qr.trans ?_;have h:=JI hl;simp [uk,qf,h]
theorem UY (h:kN ws) (hl:Yi p q):qL [Wd ws,Ld p q]=.ok (.lst (vJ (yD ws p q)),[.non,.non]):=by
 refine qr.trans ?_;have e:=JG (G:=jU) h (p:=p) (q:=q) λw c=>⟨uv (h.2.2.2 w c) p,uv (h.2.2.2 w c) q⟩
 have l:=vP h;have c2:=xN hl;simp only [xB,qf,aJ,bt,aw,aX,Nat.reduceAdd,cD,bA,aS];simp [l,c2,e]
theorem wN (h:Wt w) (g:-3<=p) (h1:p<=2):ky [.str w,.int p]=.ok (.str (JO w p),[.non,.non]):=by
 have hp:p=-3\/p=-2\/p=-1\/p=0\/p=1\/p=2:=by lia
 rcases Wh h with ⟨a,rfl⟩ | ⟨a,b,rfl⟩ | ⟨a,b,c,rfl⟩ | ⟨a,b,c,d,rfl⟩ | ⟨a,b,c,d,e,rfl⟩ | ⟨a,b,c,d,e,f,rfl⟩ <;> rcases hp with rfl | rfl | rfl | rfl | rfl | rfl <;> kernel_rfl
theorem ux (h:kN ws) (hl:Yi p q):vD [.tup (ws.map D.str),.tup [.int p,.int q]]=.ok (.lst (vJ (yD ws p q)),[.non,.non]):=by
 refine qr.trans ?_;have e:=wL (cap:=[1]) (fi:=uy (qd 0)) (ρ:=[d4 (.tup (ws.map D.str)),d4 (.tup [.int p,.int q])]) (ρ1:=[d4 (.tup (ws.map D.str)),d4 (.tup [.int p,.int q])]) (ds:=ws.map D.str)
  (fe:=(gq (qb (qw [.vl,.vl] ky (qb (qd 0) (qb (d2 ixD (qd 1) (dC (.int 0))) qB))) (qb (qw [.vl,.vl] ky (qb (qd 0) (qb (d2 ixD (qd 1) (dC (.int 1))) qB))) qB))))
  (λd=>match d with | .str w=>.tup [.str (JO w p),.str (JO w q)] | d=>d) (by simp [jR]) (by rw [ay]; exact kO (by have:=h.2.1; lia)) (λd hd=>by obtain ⟨w,c,rfl⟩:=aF.mp hd;have h1:=wN (h.2.2.2 w c) hl.1.1 hl.1.2;have h2:=wN (h.2.2.2 w c) hl.2.1 hl.2.2;have C:2<=sizeLine:=kO (by lia);simp [ixD,atI,ixN,h1,h2,C])
 simp only [QI,qf,aJ,bt,Vt,aw,aX,Nat.reduceAdd,cD,bA,aS];rw [e];simp [vJ,yD]
noncomputable def wdB:D->Bool
 | .str x=>(decide (1<=x.length)&&decide (x.length<=6))&&(vI x).all zX
 | _=>d7
theorem Zr:zX (.str ⟨#[c]⟩)=d8->az c:=by
 have g:(aY "a").cps.toList=[97]:=by decide +kernel
 have C:(aY "z").cps.toList=[122]:=by decide +kernel
 intro h;simp only [zX,vQ,g,C,aA,dh,decide_eq_false_iff_not] at h;obtain ⟨_,h1,h2⟩:=h;simp [cE] at h1 h2;exact ⟨by lia,by lia⟩
theorem UZ (h:wdB d=d8):∃ w,d=.str w/\Wt w:=by
 cases d <;> first | (simp [wdB] at h; done) | skip
 rename_i x;simp only [wdB,aA,decide_eq_true_eq,aL] at h;exact ⟨x,rfl,h.1.1,h.1.2,λc a=>Zr (h.2 _ (aF.mpr ⟨c,a,rfl⟩))⟩
theorem Qd (h:Pl d):kA [d]=.ok (.bl (wdB d),[.non]):=by
 refine qr.trans ?_;cases d <;> first
  | exact h.elim
  | (simp [kz,qf,ku,tyN,wdB]; done)
  | skip
 rename_i x;by_cases h1:1<=x.length
 ·by_cases f:x.length<=6
  ·have e:=wL (cap:=[]) (fi:=uy (qd 0)) (ρ:=[d4 (.str x)]) (ρ1:=[d4 (.str x)]) (ds:=vI x) (fe:=qw [.vl] jT (qb (qd 0) qB)) (λd=>.bl (zX d)) (by simp [jR]) (by
    simp [vI,<-jW];exact kO (by lia)) (λd hd=>by
    obtain ⟨c,g,rfl⟩:=aF.mp hd;have h1:=uw (d:=.str ⟨#[c]⟩) trivial;simp [h1])
   have b:(1:Int)<=x.length:=by lia
   have a:(x.length:Int)<=6:=by lia
   have w:wdB (.str x)=(vI x).all zX:=by simp [wdB,h1,f]
   rw [w];simp only [kz,qf,aJ,bt,aw,aX,Nat.reduceAdd,cD,bA,aS];simp [ku,tyN,b,a,e,vF]
  ·have a:¬(x.length:Int)<=6:=by lia
   simp [kz,qf,ku,tyN,wdB,f,a]
 ·have b:¬(1:Int)<=x.length:=by lia
  simp [kz,qf,ku,tyN,wdB,h1,b]
abbrev awB:qP:=(sIf (dOr (yt (yF (d1 (ku "str") (qd 1)))) (dOr (yt (jp (jN leD leD (dC (.int 1)) (d1 uU (qd 1)) (dC (.int 6))))) (yt (yF (d1 JM (jX [] 1 [] (uy (qd 1)) (gNm 0) ftT (jN leD leD (dC (.str "a")) (qd 0) (dC (.str "z"))))))))) (jI (dC (.bl d7))) jq)
theorem Zs (h:Pl d) (T:Option D):awB [T,d4 d]=if wdB d then .ok (.nx,[T,d4 d]) else .ok (.rt (.bl d7),[T,d4 d]):=by
 cases d <;> first
  | exact h.elim
  | (simp [awB,ku,tyN,wdB]; done)
  | skip
 rename_i x;by_cases h1:1<=x.length
 ·by_cases f:x.length<=6
  ·have e:=wL (cap:=[]) (fi:=uy (qd 1)) (ρ:=[T,d4 (.str x)]) (ρ1:=[T,d4 (.str x)]) (ds:=vI x) (fe:=jN leD leD (dC (.str "a")) (qd 0) (dC (.str "z"))) (λd=>.bl (zX d)) (by simp [jR]) (by
    simp [vI,<-jW];exact kO (by lia)) (λd hd=>by
    obtain ⟨c,j,rfl⟩:=aF.mp hd;have i:(⟨#[c]⟩:Str).length=1:=rfl;cases h2:vQ ⟨#[c]⟩ "a" <;> simp [zX,h2,i])
   have b:(1:Int)<=x.length:=by lia
   have a:(x.length:Int)<=6:=by lia
   have w:wdB (.str x)=(vI x).all zX:=by simp [wdB,h1,f]
   rw [w];cases g:(vI x).all zX <;> simp [awB,ku,tyN,b,a,e,vF,g]
  ·have a:¬(x.length:Int)<=6:=by lia
   simp [awB,ku,tyN,wdB,f,a]
 ·have b:¬(1:Int)<=x.length:=by lia
  simp [awB,ku,tyN,wdB,h1,b]
theorem Wj {B:qP} {T:Option D} (k:∀ d,Pl d->B [T,d4 d]=if wdB d then .ok (.nx,[T,d4 d]) else .ok (.rt (.bl d7),[T,d4 d])):∀ (ds:List D) (u:Option D),(∀ d∈ds,Pl d)->∃ W,yw (gNm 1) B ds [T,u]=.ok (if ds.all wdB then .nx else .rt (.bl d7),[T,W])
 | [],u,_=>⟨u,rfl⟩
 | d::ds,u,h=>by
  have e:=k d (h d (by simp));cases b:wdB d with
  | true=>obtain ⟨W,a⟩:=Wj k ds (d4 d) λx hx=>h x (by simp [hx]);refine ⟨W,?_⟩;rw [b] at e;simp [yw,e,a,b]
  | false=>refine ⟨d4 d,?_⟩;rw [b] at e;simp [yw,e,b]
theorem Yb (ws:List Str):∀ ks:List Str,(ws.foldl gb ks).length<=ks.length+ws.length/\((ws.foldl gb ks).length=ks.length+ws.length->ws.Nodup/\∀ x∈ws,x∉ks):=by
 induction ws with
 | nil=>intro ks; simp
 | cons w ws l=>
  intro ks;rw [dB];by_cases c:w∈ks
  ·have e:gb ks w=ks:=by simp [gb,c]
   rw [e];have:=l ks;exact ⟨by simp; lia,λz=>by simp at z; lia⟩
  ·have e:gb ks w=ks++[w]:=by simp [gb,c]
   rw [e];have:=l (ks++[w]);simp only [ai,aw,aX] at this ⊢;refine ⟨by lia,λz=>?_⟩;obtain ⟨a,b⟩:=this.2 (by lia);refine ⟨aH.mpr ⟨λq=>b w q (by simp),a⟩,λx hx=>?_⟩;rcases aa.mp hx with rfl | hx;·exact c
   ·exact λq=>b x hx (by simp [q])
theorem QQ:∀ {ds:List D},ds.all wdB=d8->∃ ws:List Str,ds=ws.map D.str/\∀ w∈ws,Wt w
 | [],_=>⟨[],rfl,by simp⟩
 | d::ds,h=>by
  rw [dm,aA] at h;obtain ⟨w,rfl,a⟩:=UZ h.1;obtain ⟨ws,rfl,c⟩:=QQ h.2;refine ⟨w::ws,rfl,λx hx=>?_⟩;rcases aa.mp hx with rfl | hx;·exact a
  ·exact c x hx
theorem Yc (ws:List Str) (w:Str):ui (.tup (ws.map D.str)) (.str w)=.ok (.int (ws.count w:Nat)):=by
 have e:((ws.map D.str).map λd=>eqN 7 d (.str w) == d4 d8).countP id=ws.count w:=by
  induction ws with
  | nil=>rfl
  | cons a ws l=>rw [aJ,aJ,dt,l,List.count_cons];by_cases z:a=w <;> simp [z,eqN,eqS]
 have h:=wK w ws;simp only [ui,h,e]
def Pt:D->Prop
 | .tup ds=>ds.length<=100/\∀ d∈ds,Pl d
 | d=>Pl d
theorem Zu (ws:List Str) (hl:ws.length<=100) (u:Option D):jX [] 1 [0] (uy (qd 0)) (gNm 0) ftT (d2 eqD (dM qab ui (qd 1) (qd 0)) (dC (.int 1))) [d4 (.tup (ws.map D.str)),u]=.ok (.lst (ws.map λw=>.bl (decide (ws.count w=1))),[d4 (.tup (ws.map D.str)),u]):=by
 have e:=wL (cap:=[0]) (fi:=uy (qd 0)) (ρ:=[d4 (.tup (ws.map D.str)),u]) (ρ1:=[d4 (.tup (ws.map D.str)),u]) (ds:=ws.map D.str) (fe:=d2 eqD (dM qab ui (qd 1) (qd 0)) (dC (.int 1))) (λd=>match d with | .str w=>.bl (decide (ws.count w=1)) | _=>.non) (by simp [jR]) (by rw [ay]; exact kO (by lia)) (λd hd=>by
  obtain ⟨w,_,rfl⟩:=aF.mp hd;have h:=Yc ws w;generalize ws.map D.str=xs at h;simp only [aJ,bt,cz,dq];have z:((List.count w ws:Nat):Int)=1↔List.count w ws=1:=by lia
  by_cases a:List.count w ws=1 <;> simp [dM,qab,h,eqD,eqN,eqS,a,z])
 rw [e];simp [Function.comp_def]
theorem Qe {x:D} (hx:Pt x):(∃ ws,kN ws/\x=Wd ws/\kg [x]=.ok (.bl d8,[.non]))\/(kB [x]=.ok (.bl d7,[.non])/\kg [x]=.ok (.bl d7,[.non])):=by
 cases x <;> first
  | exact (show False from hx).elim
  | (refine .inr ⟨?_,?_⟩ <;> refine qr.trans ?_ <;> simp [ju,qY,qf,ku,tyN]; done)
  | skip
 rename_i ds;obtain ⟨hl,hp⟩:=hx;rcases Nat.lt_or_ge ds.length 1 with h1 | h1
 ·have c:¬(1:Int)<=ds.length:=by lia
  exact .inr ⟨by refine qr.trans ?_; simp [ju,qf,ku,tyN,c],by refine qr.trans ?_; simp [qY,qf,ku,tyN,c]⟩
 rcases Nat.lt_or_ge 6 ds.length with q | q
 ·have h:¬(ds.length:Int)<=6:=by lia
  exact .inr ⟨by refine qr.trans ?_; simp [ju,qf,ku,tyN,h],by refine qr.trans ?_; simp [qY,qf,ku,tyN,h]⟩
 have c:(1:Int)<=ds.length:=by lia
 have h:(ds.length:Int)<=6:=by lia
 obtain ⟨W,g⟩:=Wj (λd hd=>Zs hd (d4 (.tup ds))) ds d6 hp;have e:=wL (cap:=[]) (fi:=uy (qd 0)) (ρ:=[d4 (.tup ds)]) (ρ1:=[d4 (.tup ds)]) (ds:=ds) (fe:=qw [.vl] kA (qb (qd 0) qB)) (λd=>.bl (wdB d)) (by simp [jR]) (kO (by lia)) (λd hd=>by have h1:=Qd (hp d hd);simp [h1]);have j:=vF wdB ds;cases p:ds.all wdB with
 | false=>
  rw [p] at g j;refine .inr ⟨?_,?_⟩;·refine qr.trans ?_;simp [ju,qf,ku,tyN,c,h,e,j]
  ·refine qr.trans ?_;simp [qY,qf,ku,tyN,c,h,jR,g]
 | true=>
  obtain ⟨ws,rfl,u⟩:=QQ p;rw [p] at g j;rw [ay] at h1 q hl;rw [ay] at c h;have t:=Zu ws hl W;have i:=vF (λw=>decide (ws.count w=1)) ws;have s:=Yb ws [];have v:(ws.foldl gb []).length < 4000:=by simp at s; lia
  by_cases n:ws.Nodup
  ·refine .inl ⟨ws,⟨h1,q,n,u⟩,rfl,?_⟩;have l:ws.all (λw=>decide (ws.count w=1))=true:=by
    rw [aL];intro w m;rw [decide_eq_true_eq];have a:=List.nodup_iff_count.mp n w;have b:=List.count_pos_iff.mpr m
    lia
   rw [l] at i;refine qr.trans ?_;simp [-dv,qY,qf,ku,tyN,c,h,jR,g,t,i]
  ·have l:ws.all (λw=>decide (ws.count w=1))=false:=by
    rw [<-Bool.not_eq_true];intro z;rw [aL] at z;refine n (List.nodup_iff_count.mpr λw=>?_);by_cases m:w∈ws
    ·have:=z w m;rw [decide_eq_true_eq] at this
     lia
    ·rw [List.count_eq_zero_of_not_mem m]
     lia
   rw [l] at i;have k:¬(ws.foldl gb []).length=ws.length:=λz=>n (s.2 (by simpa using z)).1;have f:¬((ws.foldl gb []).length:Int)=(ws.length:Int):=by lia
   have r:ws.length < 4000:=by lia
   have o:(((ws.foldl gb []).length:Int) == (ws.length:Int))=false:=by rw [beq_eq_false_iff_ne]; exact f
   refine .inr ⟨?_,?_⟩;·refine qr.trans ?_;simp [-dv,r,o,ju,qf,ku,tyN,c,h,e,j,wT,yM,yp,v,eqD,eqN,eqS,k,f]
   ·refine qr.trans ?_;simp [-dv,qY,qf,ku,tyN,c,h,jR,g,t,i]
def ZA (ca:Str->Addr):Prop:=∀ x∈CS,∀ y∈CS,ca x=ca y->x=y
variable {ca:Str->Addr}
theorem js (h:ZA ca) {x:Str} (hx:x∈CS) (D:y∈CS) {b:Bool} (e:decide (y=x)=b):Js ca CS x (ca y)=d4 b:=by
 unfold Js;rw [Aa (aF.mpr ⟨y,D,rfl⟩),<-e];by_cases z:y=x;·simp [z]
 ·have:ca y≠ca x:=λw=>z (h y D x hx w);simp [z,this]
theorem Wk (D:y∈CS):GI ca CS (ca y)=d4 true:=by unfold GI;rw [Aa (aF.mpr ⟨y,D,rfl⟩)]
theorem Wl (D:y∈CS):GH ca CS y=d4 (ca y):=by unfold GH;rw [Aa D]
theorem yr (h:ZA ca):kM ca [.xcp (ca "NoWords")]=.ok (.tup [.str "refused",.int 0],[.non]):=by
 refine qr.trans ?_;have D:(aY "NoWords")∈CS:=by decide +kernel
 have C:=js h (x := "NoWords") (y := "NoWords") (b:=d8) (by decide +kernel) D (by decide +kernel);have o:=js h (x := "NoLook") (y := "NoWords") (b:=d7) (by decide +kernel) D (by decide +kernel);have f:=js h (x := "NoNumbers") (y := "NoWords") (b:=d7) (by decide +kernel) D (by decide +kernel);have e:=js h (x := "NoRoom") (y := "NoWords") (b:=d7) (by decide +kernel) D (by decide +kernel);have d:=js h (x := "NoWord") (y := "NoWords") (b:=d7) (by decide +kernel) D (by decide +kernel);have q:=js h (x := "NoWorths") (y := "NoWords") (b:=d7) (by decide +kernel) D (by decide +kernel);have l:=js h (x := "Never") (y := "NoWords") (b:=d7) (by decide +kernel) D (by decide +kernel);have k:=js h (x := "Full") (y := "NoWords") (b:=d7) (by decide +kernel) D (by decide +kernel);have i:=js h (x := "Known") (y := "NoWords") (b:=d7) (by decide +kernel) D (by decide +kernel);have T:=Wk (ca:=ca) D;have c:4<=sizeLine:=kO (by lia);have a:8<=sizeLine:=kO (by lia);have z:8 < sizeLine:=au (by decide) big;have M:2<=sizeLine:=kO (by lia);simp [uL,qf,xR,C,o,f,e,d,q,l,k,i,T,c,a,z,M,yx,qaB,Vg,zr,jZ,neD,eqN,eqS,zt,Xx,dt,List.findIdx?_cons]
theorem yX (h:ZA ca):kM ca [.xcp (ca "NoLook")]=.ok (.tup [.str "refused",.int 1],[.non]):=by
 refine qr.trans ?_;have D:(aY "NoLook")∈CS:=by decide +kernel
 have C:=js h (x := "NoWords") (y := "NoLook") (b:=d7) (by decide +kernel) D (by decide +kernel);have o:=js h (x := "NoLook") (y := "NoLook") (b:=d8) (by decide +kernel) D (by decide +kernel);have f:=js h (x := "NoNumbers") (y := "NoLook") (b:=d7) (by decide +kernel) D (by decide +kernel);have e:=js h (x := "NoRoom") (y := "NoLook") (b:=d7) (by decide +kernel) D (by decide +kernel);have d:=js h (x := "NoWord") (y := "NoLook") (b:=d7) (by decide +kernel) D (by decide +kernel);have q:=js h (x := "NoWorths") (y := "NoLook") (b:=d7) (by decide +kernel) D (by decide +kernel);have l:=js h (x := "Never") (y := "NoLook") (b:=d7) (by decide +kernel) D (by decide +kernel);have k:=js h (x := "Full") (y := "NoLook") (b:=d7) (by decide +kernel) D (by decide +kernel);have i:=js h (x := "Known") (y := "NoLook") (b:=d7) (by decide +kernel) D (by decide +kernel);have T:=Wk (ca:=ca) D;have c:4<=sizeLine:=kO (by lia);have a:8<=sizeLine:=kO (by lia);have z:8 < sizeLine:=au (by decide) big;have M:2<=sizeLine:=kO (by lia);simp [uL,qf,xR,C,o,f,e,d,q,l,k,i,T,c,a,z,M,yx,qaB,Vg,zr,jZ,neD,eqN,eqS,zt,Xx,dt,List.findIdx?_cons]
abbrev nn4:Sl:=[d4 .non,d4 .non,d4 .non,d4 .non]
variable {b a r:D} {e:Str} {o:List D}
theorem Wm (h:qL [a,b]=.exc e [d4 .non,d4 .non]) (f:e∈CS) (w:kM ca [.xcp (ca e)]=.ok (r,o)):∀ i∈([0,1,2,3,4,5,6,7,8,9]:List Int),kS ca [.int i,a,b]=.ok (r,[.non,.non,.non]):=by
 have c:=Wl (ca:=ca) f;have h1:kq [a,b]=.exc e [d4 .non,d4 .non]:=by refine qr.trans ?_;simp [VZ,qf,h]
 have h2:qQ [a,b]=.exc e [d4 .non,d4 .non]:=by refine qr.trans ?_;simp [yT,qf,h]
 have p:qE [a,b]=.exc e [d4 .non,d4 .non]:=by refine qr.trans ?_;simp [uu,qf,h]
 have m:jz [a,b,.non,.non]=.exc e nn4:=by refine qr.trans ?_;simp [uq,qf,h]
 have d:xG [a,b,.non,.non]=.exc e nn4:=by refine qr.trans ?_;simp [qai,qf,m]
 have n:ke [a,b,.non,.non]=.exc e nn4:=by refine qr.trans ?_;simp [QK,qf,d]
 have l:jk [a,b,.non,.non]=.exc e nn4:=by refine qr.trans ?_;simp [yR,qf,h]
 have k:qX [a,b,.non,.non,.non]=.exc e (d4 .non::nn4):=by refine qr.trans ?_;simp [ur,qf,m]
 have j:kL [a,b,.non,.non,.non]=.exc e (d4 .non::nn4):=by refine qr.trans ?_;simp [QL,qf,m]
 have g:vn [a,b,.non]=.exc e [d4 .non,d4 .non,d4 .non]:=by refine qr.trans ?_;simp [ut,qf,h]
 have C:atI [qL,kq,qQ,qE] 0=d4 qL:=rfl;have x:atI [qL,kq,qQ,qE] 1=d4 kq:=rfl;have v:atI [qL,kq,qQ,qE] 2=d4 qQ:=rfl;have z:atI [qL,kq,qQ,qE] 3=d4 qE:=rfl;have y:atI [xG,ke,jk] 0=d4 xG:=rfl;have u:atI [xG,ke,jk] 1=d4 ke:=rfl;have t:atI [xG,ke,jk] 2=d4 jk:=rfl;have s:atI [qX,kL] 0=d4 qX:=rfl;have q:atI [qX,kL] 1=d4 kL:=rfl;intro i hi;simp only [aa,cg,or_false] at hi;rcases hi with rfl | rfl | rfl | rfl | rfl | rfl | rfl | rfl | rfl | rfl <;> refine qr.trans ?_;·simp [kf,xQ,vW,C,qf,h,c,w,uS,eqD,eqN,eqS]
 ·simp [kf,xQ,vW,x,qf,h1,c,w,uS,eqD,eqN,eqS]
 ·simp [kf,xQ,vW,v,qf,h2,c,w,uS,eqD,eqN,eqS]
 ·simp [kf,xQ,vW,z,qf,p,c,w,uS,eqD,eqN,eqS]
 ·simp [kf,xQ,vW,y,qf,d,c,w,uS,eqD,eqN,eqS]
 ·simp [kf,xQ,vW,u,qf,n,c,w,uS,eqD,eqN,eqS]
 ·simp [kf,xQ,vW,t,qf,l,c,w,uS,eqD,eqN,eqS]
 ·simp [kf,xQ,vW,s,qf,k,c,w,uS,eqD,eqN,eqS]
 ·simp [kf,xQ,vW,q,qf,j,c,w,uS,eqD,eqN,eqS]
 ·simp [kf,xQ,qf,g,c,w,eqD,eqN,eqS]
theorem Wn (h:qI [a]=.exc e [d4 .non]) (i:e∈CS) (w:kM ca [.xcp (ca e)]=.ok (r,o)):kS ca [.int 10,a,b]=.ok (r,[.non,.non,.non]):=by
 have c:=Wl (ca:=ca) i;have h1:gZ [a]=.exc e [d4 .non]:=by refine qr.trans ?_;simp [Wa,qf,h]
 refine qr.trans ?_;simp [kf,xQ,qf,h1,c,w,eqD,eqN,eqS]
theorem Yd (h:qW [b]=.exc e [d4 .non]) (i:e∈CS) (w:kM ca [.xcp (ca e)]=.ok (r,o)):kS ca [.int 11,a,b]=.ok (r,[.non,.non,.non]):=by
 have c:=Wl (ca:=ca) i;have h1:jE ca [.ins (ca "Words") [],b]=.exc e [d4 (.ins (ca "Words") []),d4 .non]:=by refine qr.trans ?_;simp [jD,qf,h]
 refine qr.trans ?_;simp [kf,xQ,qf,VE,UE,h1,c,w,eqD,eqN,eqS]
theorem QR (w:kN ws) (hl:Yi p q):kS ca [.int 0,Wd ws,Ld p q]=.ok (.lst (vJ (yD ws p q)),[.non,.non,.non]):=by have C:atI [qL,kq,qQ,qE] 0=d4 qL:=rfl;have h:=UY w hl;refine qr.trans ?_;generalize Wd ws=W at *;generalize Ld p q=L at *;simp [kf,xQ,vW,C,qf,h]
variable {xs:List D}
theorem Yx (b:xs.length<=6) {j:Nat} (G:j<=6):slD d6 (d4 (j:Int)) d6 (.tup xs)=.ok (.tup (xs.take j))/\slD (d4 ((j:Int)+1)) d6 d6 (.tup xs)=.ok (.tup (xs.drop (j+1))):=by
 match xs,b with
 | [],_=>rcases j with _ | _ | _ | _ | _ | _ | _ | j <;> first | exact ⟨by kernel_rfl,by kernel_rfl⟩ | lia
 | [_],_=>rcases j with _ | _ | _ | _ | _ | _ | _ | j <;> first | exact ⟨by kernel_rfl,by kernel_rfl⟩ | lia
 | [_,_],_=>rcases j with _ | _ | _ | _ | _ | _ | _ | j <;> first | exact ⟨by kernel_rfl,by kernel_rfl⟩ | lia
 | [_,_,_],_=>rcases j with _ | _ | _ | _ | _ | _ | _ | j <;> first | exact ⟨by kernel_rfl,by kernel_rfl⟩ | lia
 | [_,_,_,_],_=>rcases j with _ | _ | _ | _ | _ | _ | _ | j <;> first | exact ⟨by kernel_rfl,by kernel_rfl⟩ | lia
 | [_,_,_,_,_],_=>rcases j with _ | _ | _ | _ | _ | _ | _ | j <;> first | exact ⟨by kernel_rfl,by kernel_rfl⟩ | lia
 | [_,_,_,_,_,_],_=>rcases j with _ | _ | _ | _ | _ | _ | _ | j <;> first | exact ⟨by kernel_rfl,by kernel_rfl⟩ | lia
 | _::_::_::_::_::_::_::_,h=>simp at h
theorem iR0 {f:qM} {k:Int} (a:0<=k) (h1:k<=2000) (h:f ρ=.ok (.int k,ρ1)):kF f ρ=.ok (zZ 0 k.toNat,ρ1):=by
 have l:-(2 ^ 62:Int)<=k/\k < 2 ^ 62:=by lia
 simp [kF,h,-Int.reducePow,l]
theorem jF {f g:qP} (h:f ρ=.ok (.nx,ρ1)):Ws ms (jl f g ρ)=Ws ms (g ρ1):=by rw [Vs,h];rfl
theorem QS:∀ l:List (Str×Str),vH (eqN 7) (vJ l) (vJ l)=d4 d8
 | []=>rfl
 | a::l=>by have i:=QS l;simp only [vJ,aJ] at i ⊢;simp [vH,i,eqN,eqS]
theorem zY (l:List (Str×Str)):eqD (.lst (vJ l)) (.lst (vJ l))=.ok (.bl d8)/\neD (.lst (vJ l)) (.lst (vJ l))=.ok (.bl d7):=by have h:=QS l;generalize vJ l=x at h;exact ⟨by simp [eqD,eqN,h],by simp [neD,eqN,h]⟩
abbrev ref (k:Int):D:=.tup [.str "refused",.int k]
abbrev qca (ca:Str->Addr):qM:=qw [.vl,.vl,.vl] (kS ca) (qb (qd 0) (qb (qd 1) (qb (qd 2) qB)))
abbrev I11:List D:=[.int 0,.int 1,.int 2,.int 3,.int 4,.int 5,.int 6,.int 7,.int 8,.int 9]
theorem qcb {ca:Str->Addr} {fi:kP} {r:D} {k:Int} (d:∀ k∈cap,k∉[1]) (f:fi ρ=.ok (I11++[.int k],ρ)) (c:(cap.map λk=>(ρ[k]?).getD d6)=[d4 a,d4 b])
  (h:∀ i∈([0,1,2,3,4,5,6,7,8,9]:List Int),kS ca [.int i,a,b]=.ok (r,[.non,.non,.non])) (h':kS ca [.int k,a,b]=.ok (r,[.non,.non,.non])) :
  jX [1] 1 cap fi (gNm 0) ftT (qca ca) ρ=.ok (.lst (aj 11 r),ρ):=by
 have e:=Wi (own:=[1]) (cap:=cap) (fi:=fi) (fe:=qca ca) (λ_=>r) d f (kO (by simp)) (λp hp=>by
  rw [c];have hp:(∃ i∈([0,1,2,3,4,5,6,7,8,9]:List Int),p=.int i)\/p=.int k:=by
   simp only [I11,aP,aa,cg,or_false] at hp;rcases hp with hp | rfl
   ·refine .inl ?_;rcases hp with rfl | rfl | rfl | rfl | rfl | rfl | rfl | rfl | rfl | rfl <;> exact ⟨_,by decide,rfl⟩
   ·exact .inr rfl
  rcases hp with ⟨i,hi,rfl⟩ | rfl;·have:=h i hi;simp [this]
  ·simp [h'])
 exact e
noncomputable def ODL:List D:=[.non,.tup [],.tup [.int 0],.lst [.int 0,.int 0],.tup [.int 0,.int 3],.tup [.int (-4),.int 0],.tup [.int 0,.bl d8],.tup [.str "0",.int 0],.tup [.int 0,.int 0,.int 0],.tup [.non,.int 0],.int 0]
theorem Zv:∀ d∈ODL,qW [d]=.exc "NoLook" [d4 .non]:=by intro d hd;unfold ODL at hd;simp only [aa,cg,or_false] at hd;rcases hd with rfl | rfl | rfl | rfl | rfl | rfl | rfl | rfl | rfl | rfl | rfl <;> kernel_rfl
theorem Wo (h:kB [a]=.ok (.bl d7,[.non])):qI [a]=.exc "NoWords" [d4 .non]/\qL [a,b]=.exc "NoWords" [d4 .non,d4 .non]:=by
 have z:1<=sizeLine:=kO (by lia);have h1:qI [a]=.exc "NoWords" [d4 .non]:=by refine qr.trans ?_;simp [kJ,qf,h,kY,z]
 refine ⟨h1,?_⟩;refine qr.trans ?_;simp [xB,qf,h1]
theorem JJ (w:kN ws) (h:qW [b]=.exc "NoLook" [d4 .non]):qL [Wd ws,b]=.exc "NoLook" [d4 .non,d4 .non]:=by have h2:qI [Wd ws]=_:=vP w;refine qr.trans ?_;generalize Wd ws=W at *;simp [xB,qf,h,h2]
noncomputable def SOM (w:Str):List D:=[.non,.str "",.str "A",.str "abcdefg",.int 1,.str w,.str "a b",.tup [.str "a"],.str "ab",.str "a{",.str "abc"]
noncomputable def BAD (xs bs:List D):List D:=[.tup bs,.tup bs,.tup bs,.lst xs,.tup [],.tup (aj 4 xs).flatten,.str "words",.non,.tup (xs++xs.take 1)]
theorem qas {bs:List D} (hx:xs.length<=6) (h:bs.length<=6) (px:∀ d∈xs,Pl d) (pb:∀ d∈bs,Pl d):∀ d∈BAD xs bs,Pt d:=by
 intro d hd;unfold BAD at hd;simp only [aa,cg,or_false] at hd;rcases hd with rfl | rfl | rfl | rfl | rfl | rfl | rfl | rfl | rfl;·exact ⟨by lia,pb⟩
 ·exact ⟨by lia,pb⟩
 ·exact ⟨by lia,pb⟩
 ·trivial
 ·exact ⟨by simp,by simp⟩
 ·refine ⟨by rw [yb]; lia,λd hd=>?_⟩;obtain ⟨l,hl,hd⟩:=List.mem_flatten.mp hd;rw [List.eq_of_mem_replicate hl] at hd;exact px d hd
 ·trivial
 ·trivial
 ·refine ⟨by rw [ai,cf]; lia,λd hd=>?_⟩;rcases aP.mp hd with hd | hd;·exact px d hd
  ·exact px d (List.mem_of_mem_take hd)
theorem qat (h:ZA ca) (n:List Int):UV ca [scr n]=.ok (.bl d8,[.non]):=by
 obtain ⟨ws,P,l,Z,g1⟩:=UX n [] (by simp);simp only [aX,Nat.zero_add] at Z;obtain ⟨p,q,t,hl,l2,g2⟩:=Zq n P (by lia);have w1:=l.1;have w6:=l.2.1;obtain ⟨i,F,i1,g3⟩:=wb n t (many:=(ws.length:Int)) (by lia) (by lia);obtain ⟨j,rfl⟩:=Int.eq_ofNat_of_zero_le F;have hj:j < ws.length:=by lia
 obtain ⟨c,hw0⟩:∃ c,ws[0]?=d4 c:=⟨ws[0],by rw [aU (by lia)]⟩
 obtain ⟨z,E,S⟩:=yo n (t++[.int 0]) (SOM c) (by simp [SOM]) (by simp; lia);have Y:Pl z:=by unfold SOM at E;simp only [aa,cg,or_false] at E;rcases E with rfl | rfl | rfl | rfl | rfl | rfl | rfl | rfl | rfl | rfl | rfl <;> trivial
 have y:(ws.map D.str).length<=6:=by rw [ay]; lia
 have X:1<=(ws.map D.str).length:=by rw [ay]; lia
 have px:∀ d∈ws.map D.str,Pl d:=λd hd=>by obtain ⟨w,_,rfl⟩:=aF.mp hd;trivial
 have N:atI (ws.map D.str) 0=d4 (.str c):=by have:=yn (ws.map D.str) 0;rw [aM,hw0] at this;exact this
 have s:uU (Wd ws)=.ok (.int (ws.length:Int)):=by simp
 have e:=QR (ca:=ca) l hl;have m:vD [Wd ws,Ld p q]=_:=ux l hl;have u:=zY (yD ws p q);obtain ⟨c1,c2⟩:=Yx y (j:=j) (by lia);have V:slD d6 (d4 (1:Int)) d6 (.tup (ws.map D.str))=.ok (.tup ((ws.map D.str).take 1)):=(Yx y (j:=1) (by lia)).1;have O:((ws.map D.str).take j++[z]++(ws.map D.str).drop (j+1)).length<=6:=by
  simp only [ai,cf,List.length_drop,aw,aX]
  lia
 have pb:∀ d∈(ws.map D.str).take j++[z]++(ws.map D.str).drop (j+1),Pl d:=λd hd=>by
  rcases aP.mp hd with hd | hd
  ·rcases aP.mp hd with hd | hd;·exact px d (List.mem_of_mem_take hd)
   ·rw [bg.mp hd];exact Y
  ·exact px d (List.mem_of_mem_drop hd)
 obtain ⟨x,hx,A⟩:=yo n (t++[.int 0]++[.int 0]) (BAD (ws.map D.str) ((ws.map D.str).take j++[z]++(ws.map D.str).drop (j+1))) (by simp [BAD]) (by simp; lia);have G:=qas y O px pb x hx;obtain ⟨o,ho,R⟩:=yo n (t++[.int 0]++[.int 0]++[.int 0]) ODL (by simp [ODL]) (by simp; lia);have v:=Zv o ho;have hb:=big;have g:1<=sizeLine:=by lia
 have W:9<=sizeLine:=by lia
 have f:11<=sizeLine:=by lia
 have k1:=Wm (ca:=ca) (JJ l v) (by decide +kernel) (yX h);have B:=Yd (ca:=ca) (a:=Wd ws) v (by decide +kernel) (yX h);refine qr.trans ?_;unfold Zm;rw [show qf Zl [scr n]=[d4 (scr n),d6,d6,d6,d6,d6,d6,d6] from rfl];refine (jF (ρ1:=[d4 (scr n),d4 (.lst []),d6,d6,d6,d6,d6,d6]) (by simp)).trans ?_;refine (jF (ρ1:=[d4 (scr n),d4 (.lst P),d4 (Wd ws),d6,d6,d6,d6,d6]) (by simp [g1])).trans ?_;refine (jF (ρ1:=[d4 (scr n),d4 (.lst t),d4 (Wd ws),d4 (Ld p q),d6,d6,d6,d6]) (by simp [g2])).trans ?_;rw [show Wd ws=D.tup (ws.map D.str) from rfl] at *;rw [ay] at y X;generalize hP:D.lst (vJ (yD ws p q))=PL at e m u;generalize hL:Ld p q=LD at *;have hxl:(ws.map D.str).length=ws.length:=ay ..;generalize hxs:ws.map D.str=xs at *;obtain ⟨he1,I⟩:=u;have s1:min j xs.length+1<=sizeLine:=by lia
 have s2:min j xs.length+1+(xs.length - (j+1))<=sizeLine:=by lia
 have s3:xs.length+min 1 xs.length<=sizeLine:=by lia
 have H:qad (.tup xs) (.int 4)=.ok (.tup (aj 4 xs).flatten):=by
  have a1:1<=xs.length:=by lia
  have a2:xs.length * 4<=100000:=by lia
  simp only [qad];rw [Aa ⟨by decide,a1,a2⟩];rfl
 simp only [bV,cH,cW] at S A R;have r:Ui (.tup xs)=.ok (.lst xs):=by simp [Ui]
 refine (jF (ρ1:=[d4 (scr n),d4 (.lst t),d4 (.tup xs),d4 LD,d6,d6,d6,d6]) (by simp [e,m,I])).trans ?_;refine (jF (ρ1:=[d4 (scr n),d4 (.lst (t++[.int 0])),d4 (.tup xs),d4 LD,d4 (.int (j:Nat)),d6,d6,d6]) (by simp [s,g3])).trans ?_;refine (jF (ρ1:=[d4 (scr n),d4 (.lst (t++[.int 0])),d4 (.tup xs),d4 LD,d4 (.int (j:Nat)),d4 (.lst (SOM c)),d6,d6]) (by simp [ixD,N,g,f,SOM])).trans ?_;refine (jF (ρ1:=[d4 (scr n),d4 (.lst (t++[.int 0]++[.int 0])),d4 (.tup xs),d4 LD,d4 (.int (j:Nat)),d4 (.lst (SOM c)),d4 (.tup (xs.take j++[z]++xs.drop (j+1))),d6]) (by simp only [Vu,UB,vM,uZ,Vp,Vr,Qz,Vq,QB,QA,GR,List.getElem?_cons_succ,cz,Ju,c1];simp [S,s1,s2,c2,g])).trans ?_;refine (jF (ρ1:=[d4 (scr n),d4 (.lst (t++[.int 0]++[.int 0]++[.int 0])),d4 (.tup xs),d4 LD,d4 (.int (j:Nat)),d4 (.lst (SOM c)),d4 x,d6]) (by simp only [Vu,UB,qbw,vM,uZ,Vp,Vr,XM,Qz,Vq,QB,QA,GR,List.getElem?_cons_succ,cz,Ju,H,r,V];unfold BAD at A;generalize (aj 4 xs).flatten=x4 at H A;simp [s3,W,g,H,r,V,vM,uZ,A])).trans ?_;rcases Qe G with ⟨us,Q,rfl,M⟩ | ⟨L,M⟩
 ·have e1:=QR (ca:=ca) Q hl;have T:vD [Wd us,Ld p q]=_:=ux Q hl;have e3:=(zY (yD us p q)).1;rw [hL] at e1 T;generalize Wd us=U at *;generalize D.lst (vJ (yD us p q))=PU at *;rw [Vs,Yt];simp [M,e1,T,e3]
 ·obtain ⟨K,J⟩:=Wo (b:=LD) L;have k0:=Wm (ca:=ca) J (by decide +kernel) (yr h);have C:=Wn (ca:=ca) (b:=LD) K (by decide +kernel) (yr h);refine (jF (ρ1:=[d4 (scr n),d4 (.lst (t++[.int 0]++[.int 0]++[.int 0])),d4 (.tup xs),d4 LD,d4 (.int (j:Nat)),d4 (.lst (SOM c)),d4 x,d6]) (by simp [M])).trans ?_;have d0:=qcb (cap:=[6,3]) (fi:=kF (dC (.int 11))) (ρ:=[d4 (scr n),d4 (.lst (t++[.int 0]++[.int 0]++[.int 0])),d4 (.tup xs),d4 LD,d4 (.int (j:Nat)),d4 (.lst (SOM c)),d4 x,d6]) (by decide) (by rw [iR0 (k:=11) (by lia) (by lia) rfl]; rfl) rfl k0 C;refine (jF (ρ1:=[d4 (scr n),d4 (.lst (t++[.int 0]++[.int 0]++[.int 0])),d4 (.tup xs),d4 LD,d4 (.int (j:Nat)),d4 (.lst (SOM c)),d4 x,d6]) (by rw [Yt,UC,UB,d0,Ju];simp [g,Zy,neD,eqN,vH,eqS,aj])).trans ?_;refine (jF (ρ1:=[d4 (scr n),d4 (.lst (t++[.int 0]++[.int 0]++[.int 0])),d4 (.tup xs),d4 LD,d4 (.int (j:Nat)),d4 (.lst (SOM c)),d4 (.lst ODL),d6]) (by simp [ODL,f])).trans ?_;refine (jF (ρ1:=[d4 (scr n),d4 (.lst (t++[.int 0]++[.int 0]++[.int 0]++[.int 0])),d4 (.tup xs),d4 LD,d4 (.int (j:Nat)),d4 (.lst (SOM c)),d4 (.lst ODL),d4 o]) (by simp [R])).trans ?_;have d1:=qcb (cap:=[2,7]) (fi:=uy (d2 uF (d1 wz (dC (.int 10))) (yu (qb (dC (.int 11)) qB)))) (ρ:=[d4 (scr n),d4 (.lst (t++[.int 0]++[.int 0]++[.int 0]++[.int 0])),d4 (.tup xs),d4 LD,d4 (.int (j:Nat)),d4 (.lst (SOM c)),d4 (.lst ODL),d4 o]) (by decide) (by
   have cr:GV 0 10:=by decide +kernel
   simp [wz,jR,zZ,g,f,cr];rfl) rfl k1 B
  rw [Vt,UB,d1,Ju];simp [g,Zy,eqD,eqN,vH,eqS,aj]
end Kx
namespace Kx
open PySem PySem.Spec PyProof.Rows L2 L2.D2
variable {us:List d5} {P:List d5->Prop}
theorem qcc (hl:us.length=0) (h:P []):P us:=List.length_eq_zero_iff.mp hl ▸ h
theorem qau {n:Nat} (hl:us.length=n+1):∃ a l,us=a::l/\l.length=n:=by
 cases us with
 | nil=>cases hl
 | cons a l=>exact ⟨a,l,rfl,Nat.succ.inj hl⟩
theorem qbK (hl:us.length=1) (h:∀ a,P [a]):P us:=by obtain ⟨a,l,rfl,e⟩:=qau hl;exact qcc (P:=λl=>P (a::l)) e (h a)
theorem qbL (hl:us.length=2) (h:∀ a b,P [a,b]):P us:=by obtain ⟨a,l,rfl,e⟩:=qau hl;exact qbK (P:=λl=>P (a::l)) e (h a)
theorem qcd (hl:us.length=3) (h:∀ a b c,P [a,b,c]):P us:=by obtain ⟨a,l,rfl,e⟩:=qau hl;exact qbL (P:=λl=>P (a::l)) e (h a)
theorem qce (hl:us.length=4) (h:∀ a b c d,P [a,b,c,d]):P us:=by obtain ⟨a,l,rfl,e⟩:=qau hl;exact qcd (P:=λl=>P (a::l)) e (h a)
theorem qcD (hl:us.length=5) (h:∀ a b c d e,P [a,b,c,d,e]):P us:=by obtain ⟨a,l,rfl,e⟩:=qau hl;exact qce (P:=λl=>P (a::l)) e (h a)
variable {K:Frag} {h:Heap} {mg:Str->Option d5}
theorem Zw (X:K.In h) (G:h.Ns ei mg) {x:Str} {st:Stmt} {ps:List Str} {f:Addr} {oc:d5} {od an:Option Addr} {osl:Array (Option d5)} {kV doc pm cdv ct:d5}
  (a:nsIn K ei x=d4 (d4 (.ref f))) (l:K.lookup f=d4 ⟨oc,od,.func (bf x x (kD st) (jb st) (qv st) .none kV doc pm an cdv ct),osl⟩) (c:iB K cdv x=d8) (k:fU K (.ref f)=d8)
  (d:∀ (kV doc pm:d5) (an:Option Addr) (cdv ct:d5) (us:List d5),us.length=ps.length->fG (bf x x (kD st) (jb st) (qv st) .none kV doc pm an cdv ct) ⟨us,[]⟩=pure (ps.zip us)):kl K mg x st ps:=
 ⟨f,_,uP l c k,fD X G a,(uP l c k).binds d⟩
variable {x:Str}
theorem Wp {l:List Str} {f:Str->Addr} (nd:(l.map f).Nodup) {y:Str} (hx:x∈l) (D:y∈l) (e:f x=f y):x=y:=by obtain ⟨i,hi,rfl⟩:=cQ.mp hx;obtain ⟨j,G,rfl⟩:=cQ.mp D;have q:=(dn (h₀:=by simpa using hi) (h₁:=by simpa using G) nd).mp (show (l.map f)[i]'(by simpa using hi)=(l.map f)[j]'(by simpa using G) by simpa using e);subst q;rfl
noncomputable def caT (T:List (Str×Addr)) (x:Str):Addr:=(T.lookup x).getD 0
noncomputable def Ye (K:Frag) (C:List Addr) (W:Addr):Bool:=decide C.Nodup&&C.all λc=>xcB K c&&decide (ce K (.ref c) (.ref W)=d4 d8)&&decide (bo K (.ref c) (.type "ValueError")=d4 d8)&&cm K c bmV "ValueError.__new__"&&C.all λd=>decide (bo K (.ref c) (.ref d)=d4 (decide (c=d)))
theorem Yg {C:List Addr} {W:Addr} (h:Ye K C W=d8):C.Nodup/\∀ c∈C,xcB K c=d8/\ce K (.ref c) (.ref W)=d4 d8/\bo K (.ref c) (.type "ValueError")=d4 d8/\cm K c bmV "ValueError.__new__"=d8/\∀ d∈C,bo K (.ref c) (.ref d)=d4 (decide (c=d)):=by unfold Ye at h;rw [aA,aL] at h;refine ⟨Ad h.1,λc a=>?_⟩;have q:=h.2 c a;simp only [aA,decide_eq_true_eq,aL] at q;exact ⟨q.1.1.1.1,q.1.1.1.2,q.1.1.2,q.1.2,q.2⟩
variable {c:Str}
theorem qav (h:c∈FS):c = "bar"\/c = "clash"\/c = "in_order"\/c = "is_bar"\/c = "is_telling"\/c = "least_room"\/c = "numbered"\/c = "pairs"\/c = "worths":=by simpa [FS] using h
noncomputable def ZS:List Str:=["ValueError", "all", "bool", "int", "isinstance", "len", "list", "max", "min", "range", "set", "str", "tuple"]
noncomputable def zsB (K:Frag):Bool:=ZS.all λx=>decide (nsIn K ei x=d4 d6)
theorem ud (h:zsB K=d8) (x:Str) (hx:x∈ZS:=by decide +kernel):nsIn K ei x=d4 none:=Ad (aL.mp h x hx)
theorem qaw (h:c∈CS):c = "NoWords"\/c = "NoLook"\/c = "NoNumbers"\/c = "NoRoom"\/c = "NoWord"\/c = "NoWorths"\/c = "Never"\/c = "Full"\/c = "Known":=by simpa [CS] using h
theorem qbM (X:K.In h) (G:h.Ns ei mg) {CW C p o n m l k j i g:Addr} {F0 F1 w A v s r q F:Addr} {E t a M S:Tok}
  (aW:nsIn K ei "WordError"=d4 (d4 (.ref CW)))
  (a0:nsIn K ei "NoWords"=d4 (d4 (.ref p)))
  (a1:nsIn K ei "NoLook"=d4 (d4 (.ref o)))
  (a2:nsIn K ei "NoNumbers"=d4 (d4 (.ref n)))
  (a3:nsIn K ei "NoRoom"=d4 (d4 (.ref m)))
  (a4:nsIn K ei "NoWord"=d4 (d4 (.ref l)))
  (a5:nsIn K ei "NoWorths"=d4 (d4 (.ref k)))
  (a6:nsIn K ei "Never"=d4 (d4 (.ref j)))
  (a7:nsIn K ei "Full"=d4 (d4 (.ref i)))
  (a8:nsIn K ei "Known"=d4 (d4 (.ref g)))
  (z:zsB K=d8)
  (c_LEAST_PLACE:nsIn K ei "LEAST_PLACE"=d4 (d4 (.int (-3) E)))
  (c_MOST_LETTERS:nsIn K ei "MOST_LETTERS"=d4 (d4 (.int 6 t)))
  (c_MOST_PLACE:nsIn K ei "MOST_PLACE"=d4 (d4 (.int 2 a)))
  (c_MOST_ROOM:nsIn K ei "MOST_ROOM"=d4 (d4 (.int 99 M)))
  (c_MOST_WORDS:nsIn K ei "MOST_WORDS"=d4 (d4 (.int 6 S)))
  (ex:Ye K [p,o,n,m,l,k,j,i,g] CW=d8)
  (aB:nsIn K ei "Words"=d4 (d4 (.ref C)))
  (b1:bO K C dS=d8)
  (b2:cA K C=d8)
  (b3:dg K C=d8)
  (b4:aD K (.ref C) "__setattr__"=d4 (d4 (.builtin "object.__setattr__")))
  (n0:aD K (.ref C) "look"=d4 d6)
  (n1:aD K (.ref C) "came"=d4 d6)
  (n2:aD K (.ref C) "width"=d4 d6)
  (n3:aD K (.ref C) "held"=d4 d6)
  (r0:nsIn K ei "bar"=d4 (d4 (.ref F0))) (r1:nsIn K ei "clash"=d4 (d4 (.ref F1))) (r2:nsIn K ei "in_order"=d4 (d4 (.ref w))) (r3:nsIn K ei "is_bar"=d4 (d4 (.ref A))) (r4:nsIn K ei "is_telling"=d4 (d4 (.ref v))) (r5:nsIn K ei "least_room"=d4 (d4 (.ref s))) (r6:nsIn K ei "numbered"=d4 (d4 (.ref r))) (r7:nsIn K ei "pairs"=d4 (d4 (.ref q))) (r8:nsIn K ei "worths"=d4 (d4 (.ref F))) :
  Zt K mg (λx=>.ref (caT [("WordError",CW),("NoWords",p),("NoLook",o),("NoNumbers",n),("NoRoom",m),("NoWord",l),("NoWorths",k),("Never",j),("Full",i),("Known",g),("bar",F0),("clash",F1),("in_order",w),("is_bar",A),("is_telling",v),("least_room",s),("numbered",r),("pairs",q),("worths",F),("Words",C)] x)) (caT [("WordError",CW),("NoWords",p),("NoLook",o),("NoNumbers",n),("NoRoom",m),("NoWord",l),("NoWorths",k),("Never",j),("Full",i),("Known",g),("bar",F0),("clash",F1),("in_order",w),("is_bar",A),("is_telling",v),("least_room",s),("numbered",r),("pairs",q),("worths",F),("Words",C)])/\ZA (caT [("WordError",CW),("NoWords",p),("NoLook",o),("NoNumbers",n),("NoRoom",m),("NoWord",l),("NoWorths",k),("Never",j),("Full",i),("Known",g),("bar",F0),("clash",F1),("in_order",w),("is_bar",A),("is_telling",v),("least_room",s),("numbered",r),("pairs",q),("worths",F),("Words",C)])/\caT [("WordError",CW),("NoWords",p),("NoLook",o),("NoNumbers",n),("NoRoom",m),("NoWord",l),("NoWorths",k),("Never",j),("Full",i),("Known",g),("bar",F0),("clash",F1),("in_order",w),("is_bar",A),("is_telling",v),("least_room",s),("numbered",r),("pairs",q),("worths",F),("Words",C)] "Words"=C:=by
 obtain ⟨nd,B⟩:=Yg ex;generalize hT:([("WordError",CW),("NoWords",p),("NoLook",o),("NoNumbers",n),("NoRoom",m),("NoWord",l),("NoWorths",k),("Never",j),("Full",i),("Known",g),("bar",F0),("clash",F1),("in_order",w),("is_bar",A),("is_telling",v),("least_room",s),("numbered",r),("pairs",q),("worths",F),("Words",C)]:List (Str×Addr))=T;have eW:caT T "WordError"=CW:=by subst hT; kernel_rfl
 have eB:caT T "Words"=C:=by subst hT; kernel_rfl
 have e0:caT T "NoWords"=p:=by subst hT; kernel_rfl
 have e1:caT T "NoLook"=o:=by subst hT; kernel_rfl
 have e2:caT T "NoNumbers"=n:=by subst hT; kernel_rfl
 have e3:caT T "NoRoom"=m:=by subst hT; kernel_rfl
 have e4:caT T "NoWord"=l:=by subst hT; kernel_rfl
 have Z:caT T "NoWorths"=k:=by subst hT; kernel_rfl
 have Y:caT T "Never"=j:=by subst hT; kernel_rfl
 have W:caT T "Full"=i:=by subst hT; kernel_rfl
 have V:caT T "Known"=g:=by subst hT; kernel_rfl
 have R:caT T "bar"=F0:=by subst hT; kernel_rfl
 have Q:caT T "clash"=F1:=by subst hT; kernel_rfl
 have P:caT T "in_order"=w:=by subst hT; kernel_rfl
 have O:caT T "is_bar"=A:=by subst hT; kernel_rfl
 have N:caT T "is_telling"=v:=by subst hT; kernel_rfl
 have L:caT T "least_room"=s:=by subst hT; kernel_rfl
 have J:caT T "numbered"=r:=by subst hT; kernel_rfl
 have I:caT T "pairs"=q:=by subst hT; kernel_rfl
 have H:caT T "worths"=F:=by subst hT; kernel_rfl
 have U:CS.map (caT T)=[p,o,n,m,l,k,j,i,g]:=by unfold CS;simp only [aJ,bt,e0,e1,e2,e3,e4,Z,Y,W,V]
 have u:∀ c∈CS,caT T c∈[p,o,n,m,l,k,j,i,g]:=λc b=>U ▸ aF.mpr ⟨c,b,rfl⟩;refine ⟨⟨⟨λc b=>rfl,λc b=>?_,λc b=>(B _ (u c b)).1,λc b d hd=>(B _ (u c b)).2.2.2.2 _ (u d hd),λc b=>(B _ (u c b)).2.2.1⟩,λc b=>?_,λc b=>(B _ (u c b)).2.2.2.1,λx hx=>?fr,?_,fm X G (ud z "ValueError"),fm X G (ud z "all"),fm X G (ud z "bool"),fm X G (ud z "int"),fm X G (ud z "isinstance"),fm X G (ud z "len"),fm X G (ud z "list"),fm X G (ud z "max"),fm X G (ud z "min"),fm X G (ud z "range"),fm X G (ud z "set"),fm X G (ud z "str"),fm X G (ud z "tuple"),⟨_,fD X G c_LEAST_PLACE⟩,⟨_,fD X G c_MOST_LETTERS⟩,⟨_,fD X G c_MOST_PLACE⟩,⟨_,fD X G c_MOST_ROOM⟩,⟨_,fD X G c_MOST_WORDS⟩,?mB,?bC,?bN⟩,?cO,eB⟩
 case mB=>rw [eB]; exact fD X G aB
 case bC=>rw [eB]; exact ⟨b1,b2,b3,b4⟩
 case bN=>
  rw [eB];intro f D;have D:f = "look"\/f = "came"\/f = "width"\/f = "held":=by simpa using D
  rcases D with rfl | rfl | rfl | rfl;·exact n0
  ·exact n1
  ·exact n2
  ·exact n3
 case fr=>
  rcases qav hx with rfl | rfl | rfl | rfl | rfl | rfl | rfl | rfl | rfl;·rw [R]; exact fD X G r0
  ·rw [Q]; exact fD X G r1
  ·rw [P]; exact fD X G r2
  ·rw [O]; exact fD X G r3
  ·rw [N]; exact fD X G r4
  ·rw [L]; exact fD X G r5
  ·rw [J]; exact fD X G r6
  ·rw [I]; exact fD X G r7
  ·rw [H]; exact fD X G r8
 ·show ce K (.ref (caT T c)) (.ref (caT T "WordError"))=d4 d8;rw [eW];exact (B _ (u c b)).2.1
 ·rcases qaw b with rfl | rfl | rfl | rfl | rfl | rfl | rfl | rfl | rfl;·rw [e0]; exact fD X G a0
  ·rw [e1]; exact fD X G a1
  ·rw [e2]; exact fD X G a2
  ·rw [e3]; exact fD X G a3
  ·rw [e4]; exact fD X G a4
  ·rw [Z]; exact fD X G a5
  ·rw [Y]; exact fD X G a6
  ·rw [W]; exact fD X G a7
  ·rw [V]; exact fD X G a8
 ·show mg "WordError"=d4 (.ref (caT T "WordError"));rw [eW];exact fD X G aW
 case cO=>
  intro x hx y hy e;rw [<-U] at nd;exact Wp nd hx hy e
structure Tx (K:Frag) (mg:Str->Option d5) (ca:Str->Addr):Prop where
 x_Lcell_at:kl K mg "_law_cell_at" wU ["_law_script", "_law_k"]
 x_Lmixed:kl K mg "_law_mixed" xp ["_law_script", "_law_k", "_law_many"]
 x_Ldraw:kl K mg "_law_draw" gL ["_law_script", "_law_town", "_law_many"]
 x_Lpick:kl K mg "_law_pick" gM ["_law_script", "_law_town", "_law_some"]
 x_Lword:kl K mg "_law_word" gN ["_law_script", "_law_town", "_law_few"]
 x_Lwords:kl K mg "_law_words" xu ["_law_script", "_law_town", "_law_most"]
 x_Llook:kl K mg "_law_look" gO ["_law_script", "_law_town"]
 x_Lletter:kl K mg "_law_letter" yd ["_law_word_here", "_law_place"]
 x_Lpairs:kl K mg "_law_pairs" xx ["_law_words_here", "_law_look_here"]
 x_is_letter:kl K mg "is_letter" vY ["thing"]
 x_is_word:kl K mg "is_word" ye ["thing"]
 x_is_words:kl K mg "is_words" wW ["thing"]
 x_check_words:kl K mg "check_words" kI ["thing"]
 x_is_between:kl K mg "is_between" va ["thing", "least", "most"]
 x_is_look:kl K mg "is_look" yg ["thing"]
 x_check_look:kl K mg "check_look" vd ["thing"]
 x_letter_at:kl K mg "letter_at" vZ ["word", "place"]
 x_pairs:kl K mg "pairs" gT ["words", "look"]
 x_numbered:kl K mg "numbered" wX ["words", "look", "room", "worths"]
 x_check_room:kl K mg "check_room" vf ["thing"]
 x_is_numbers:kl K mg "is_numbers" vg ["thing", "count", "room"]
 x_check_numbers:kl K mg "check_numbers" jV ["thing", "count", "room"]
 x_told_pairs:kl K mg "told_pairs" vi ["words", "look", "room", "numbers"]
 x_bar_of:kl K mg "bar_of" xF ["seen", "room", "numbers"]
 x_bar:kl K mg "bar" Zg ["words", "look", "room", "numbers"]
 x_worths:kl K mg "worths" xH ["words", "look", "room", "numbers"]
 x_is_telling:kl K mg "is_telling" vj ["words", "look", "room", "numbers", "thing"]
 x_is_bar:kl K mg "is_bar" xJ ["words", "look", "room", "numbers", "thing"]
 x_clash_of:kl K mg "clash_of" wY ["seen"]
 x_clash:kl K mg "clash" gX ["words", "look"]
 x_one_to_one:kl K mg "one_to_one" vm ["words", "look", "room"]
 x_least_room:kl K mg "least_room" vo ["words", "look"]
 x_looks:kl K mg "looks" gY ["words"]
 x_in_order:kl K mg "in_order" wZ ["words", "look"]
 x_Words_words:XS K (ca "Words") "words" "Words.words" ja ["self"]
 x_Words___init__:XT K (ca "Words") "Words.__init__" qG jC
 x_Lwhich:kl K mg "_law_which" uK ["_law_e"]
 x_Lask:kl K mg "_law_ask" QP vE
 x_Lare_words:kl K mg "_law_are_words" vp ["_law_thing"]
variable {ca:Str->Addr}
theorem qax {e0:Ev} {f:Addr} {fd:fA} (Z:ZtE e0 ca) (T:Tx e0.K e0.mg ca) (F:Fun e0.K "law" "law" Wf f fd):FnOk e0.P e0.w e0.K e0.mg e0.base (CXk e0.P e0.w) 10 f fd ["_law_script"] (spD e0.K e0.cv [.val] .sh (UV ca)):=by have y:=gK Z T.x_Lcell_at ;have J:=VJ Z T.x_Lmixed y;have b:=UI Z T.x_Ldraw J;have g:=UJ Z T.x_Lpick b;have O:=UK Z T.x_Lword b g;have G:=VO Z T.x_Lwords b g O;have Q:=UM Z T.x_Llook b;have B:=Jy Z T.x_Lletter ;have I:=VS Z T.x_Lpairs B;have r:=zD Z T.x_is_letter ;have z:=Jz Z T.x_is_word r;have u:=gR Z T.x_is_words z;have a:=yA Z T.x_check_words u;have n:=xz Z T.x_is_between ;have A:=JB Z T.x_is_look n;have k:=xA Z T.x_check_look A;have t:=zH Z T.x_letter_at ;have o:=UO Z T.x_pairs a k t;have q:=gU Z T.x_numbered o;have l:=xC Z T.x_check_room n;have j:=xD Z T.x_is_numbers n;have d:=uA Z T.x_check_numbers j;have s:=xE Z T.x_told_pairs l d o;have E:=VV Z T.x_bar_of ;have N:=qaj Z T.x_bar s E;have C:=VX Z T.x_worths N;have i:=xI Z T.x_is_telling s;have D:=VY Z T.x_is_bar s;have x:=gW Z T.x_clash_of ;have M:=UT Z T.x_clash o x;have h:=xK Z T.x_one_to_one o;have m:=xL Z T.x_least_room o;have L:=UU Z T.x_looks a;have v:=Qa Z T.x_in_order o;have e:=yC Z T.x_Words_words ;have c:=ub Z T.x_Words___init__ k;have H:=Wc Z T.x_Lwhich ;have R:=Zk Z T.x_Lask o q N C i D M h m L v e c H;have p:=xM Z T.x_Lare_words ;exact qam Z F b g G Q I R p
def Yh (K:Frag):Sp:=λvs H Q _=>∃ (a:Addr) (ns:List Int),vs=[.ref a]/\SqL K H a (ns.map V.int)/\∀ H',Q (.bl d8) H'
theorem QT {F:Hp}:∀ ns:List Int,IsL K F (ns.map V.int) (ns.map D.int)
 | []=>.nil
 | n::ns=>.cons (.int n) (QT ns)
theorem qbN {cv:Str->d5} (h:ZA ca) (vs:List V) (H:Hp) (Q:VK) (E:XK) (q:Yh K vs H Q E):spD K cv [.val] .sh (UV ca) vs H Q E:=by obtain ⟨a,ns,rfl,c,hq⟩:=q;refine ⟨H,[scr ns],Same.refl _,⟨.lst c (QT ns),trivial⟩,da,?_⟩;rw [qat h ns];intro v F' H' o k z y;have y:Is K F' v (.bl d8):=y;cases y;exact hq H'
abbrev NsX (K:Frag) (x:Str) (f:Addr):Prop:=nsIn K ei x=d4 (d4 (.ref f))
abbrev CdX (K:Frag) (v:d5) (x:Str):Prop:=iB K v x=d8
abbrev KpX (K:Frag) (f:Addr):Prop:=fU K (.ref f)=d8
abbrev LkX (K:Frag) (x:Str) (st:Stmt) (f:Addr) (oc:d5) (od an:Option Addr) (sl:Array (Option d5)) (kV d pm cd ct:d5):Prop:=K.lookup f=d4 ⟨oc,od,.func (bf x x (kD st) (jb st) (qv st) .none kV d pm an cd ct),sl⟩
def Dx (K:Frag) (x:Str) (st:Stmt):Prop:=∃ (f:Addr) (oc:d5) (od an:Option Addr) (sl:Array (Option d5)) (kV d pm cd ct:d5),NsX K x f/\LkX K x st f oc od an sl kV d pm cd ct/\CdX K cd x/\KpX K f
theorem qS (X:K.In h) (G:h.Ns ei mg) {st:Stmt} {ps:List Str} (q:Dx K x st) (d:∀ (kV doc pm:d5) (an:Option Addr) (cdv ct:d5) (us:List d5),us.length=ps.length->fG (bf x x (kD st) (jb st) (qv st) .none kV doc pm an cdv ct) ⟨us,[]⟩=pure (ps.zip us):=by
  intro _ _ _ _ _ _ us hl;first | refine qcc (P:=λus=>fG _ ⟨us,[]⟩=pure (cS _ us)) hl ?_ | refine qbK (P:=λus=>fG _ ⟨us,[]⟩=pure (cS _ us)) hl ?_ | refine qbL (P:=λus=>fG _ ⟨us,[]⟩=pure (cS _ us)) hl ?_ | refine qcd (P:=λus=>fG _ ⟨us,[]⟩=pure (cS _ us)) hl ?_ | refine qce (P:=λus=>fG _ ⟨us,[]⟩=pure (cS _ us)) hl ?_ | refine qcD (P:=λus=>fG _ ⟨us,[]⟩=pure (cS _ us)) hl ?_ | refine len6 (P:=λus=>fG _ ⟨us,[]⟩=pure (cS _ us)) hl ?_
  all_goals intros; rfl):kl K mg x st ps:=by
 obtain ⟨f,oc,od,an,sl,kV,b,pm,cd,ct,a,l,c,k⟩:=q;exact Zw X G a l c k d
abbrev LkM (K:Frag) (x q:Str) (st:Stmt) (f:Addr) (oc:d5) (od an:Option Addr) (sl:Array (Option d5)) (kV d pm cd ct:d5):Prop:=K.lookup f=d4 ⟨oc,od,.func (bf x q (kD st) (jb st) (qv st) .none kV d pm an cd ct),sl⟩
theorem qay {l:dA} {w:eI} {fa:Addr} (X:K.In h) (G:h.Ns ei mg) (hfa:mg "law"=d4 (.ref fa)) {CW C C0 C1 C2 C3 C4 C5 C6 C7 C8:Addr} {a t b M S:Tok} {c f:Addr} {v34 g34 h34 i34 N m34 v35 g35 h35 i35 L m35:d5} {o34 p34 o35 p35:Option Addr} {s34 s35:Array (Option d5)}
  (aW:nsIn K ei "WordError"=d4 (d4 (.ref CW)))
  (a0:nsIn K ei "NoWords"=d4 (d4 (.ref C0)))
  (a1:nsIn K ei "NoLook"=d4 (d4 (.ref C1)))
  (a2:nsIn K ei "NoNumbers"=d4 (d4 (.ref C2)))
  (a3:nsIn K ei "NoRoom"=d4 (d4 (.ref C3)))
  (a4:nsIn K ei "NoWord"=d4 (d4 (.ref C4)))
  (a5:nsIn K ei "NoWorths"=d4 (d4 (.ref C5)))
  (a6:nsIn K ei "Never"=d4 (d4 (.ref C6)))
  (a7:nsIn K ei "Full"=d4 (d4 (.ref C7)))
  (a8:nsIn K ei "Known"=d4 (d4 (.ref C8)))
  (zz:zsB K=d8)
  (c_LEAST_PLACE:nsIn K ei "LEAST_PLACE"=d4 (d4 (.int (-3) a)))
  (c_MOST_LETTERS:nsIn K ei "MOST_LETTERS"=d4 (d4 (.int 6 t)))
  (c_MOST_PLACE:nsIn K ei "MOST_PLACE"=d4 (d4 (.int 2 b)))
  (c_MOST_ROOM:nsIn K ei "MOST_ROOM"=d4 (d4 (.int 99 M)))
  (c_MOST_WORDS:nsIn K ei "MOST_WORDS"=d4 (d4 (.int 6 S)))
  (ex:Ye K [C0,C1,C2,C3,C4,C5,C6,C7,C8] CW=d8)
  (aB:nsIn K ei "Words"=d4 (d4 (.ref C)))
  (b1:bO K C dS=d8)
  (b2:cA K C=d8)
  (b3:dg K C=d8)
  (b4:aD K (.ref C) "__setattr__"=d4 (d4 (.builtin "object.__setattr__")))
  (n0:aD K (.ref C) "look"=d4 d6)
  (n1:aD K (.ref C) "came"=d4 d6)
  (n2:aD K (.ref C) "width"=d4 d6)
  (n3:aD K (.ref C) "held"=d4 d6)
  (q0:Dx K "_law_cell_at" wU)
  (q1:Dx K "_law_mixed" xp)
  (q2:Dx K "_law_draw" gL)
  (q3:Dx K "_law_pick" gM)
  (q4:Dx K "_law_word" gN)
  (q5:Dx K "_law_words" xu)
  (q6:Dx K "_law_look" gO)
  (q7:Dx K "_law_letter" yd)
  (q8:Dx K "_law_pairs" xx)
  (q9:Dx K "is_letter" vY)
  (q10:Dx K "is_word" ye)
  (q11:Dx K "is_words" wW)
  (q12:Dx K "check_words" kI)
  (q13:Dx K "is_between" va)
  (q14:Dx K "is_look" yg)
  (q15:Dx K "check_look" vd)
  (q16:Dx K "letter_at" vZ)
  (D:Dx K "pairs" gT)
  (B:Dx K "numbered" wX)
  (q19:Dx K "check_room" vf)
  (q20:Dx K "is_numbers" vg)
  (q21:Dx K "check_numbers" jV)
  (q22:Dx K "told_pairs" vi)
  (q23:Dx K "bar_of" xF)
  (A:Dx K "bar" Zg)
  (z:Dx K "worths" xH)
  (y:Dx K "is_telling" vj)
  (x:Dx K "is_bar" xJ)
  (q28:Dx K "clash_of" wY)
  (u:Dx K "clash" gX)
  (q30:Dx K "one_to_one" vm)
  (r:Dx K "least_room" vo)
  (q32:Dx K "looks" gY)
  (p:Dx K "in_order" wZ)
  (V:aD K (.ref C) "words"=d4 (d4 (.ref c))) (g:LkM K "words" "Words.words" ja c v34 o34 p34 s34 g34 h34 i34 N m34) (m:iB K N "Words.words"=d8) (k:fU K (.ref c)=d8) (o:cZ K (.ref c)=d8)
  (U:aD K (.ref C) "__init__"=d4 (d4 (.ref f))) (d:LkM K "__init__" "Words.__init__" qG f v35 o35 p35 s35 g35 h35 i35 L m35) (j:iB K L "Words.__init__"=d8) (i:fU K (.ref f)=d8) (n:cZ K (.ref f)=d8) (y1:dw K C=d8) (y2:fU K (.ref C)=d8)
  (q36:Dx K "_law_which" uK)
  (q37:Dx K "_law_ask" QP)
  (q38:Dx K "_law_are_words" vp)
  (q39:Dx K "law" Wf) :
  ∃ fd:fA,(∀ (s:d9) (v:d5),ip s fd ⟨[v],[]⟩ [("_law_script",v)])/\∀ base:Heap,K.In base->base.Ns ei mg->FnOk l.prog w K mg base (CXk l.prog w) 10 fa fd ["_law_script"] (Yh K):=by
 obtain ⟨f39,_,_,_,_,_,_,_,_,_,R,I,O,J⟩:=q39;obtain ⟨f24,b24_⟩:=id A;obtain ⟨_,_,_,_,_,_,_,_,_,b_24,_⟩:=b24_;obtain ⟨f29,b29_⟩:=id u;obtain ⟨_,_,_,_,_,_,_,_,_,b_29,_⟩:=b29_;obtain ⟨f33,b33_⟩:=id p;obtain ⟨_,_,_,_,_,_,_,_,_,W,_⟩:=b33_;obtain ⟨f27,b27_⟩:=id x;obtain ⟨_,_,_,_,_,_,_,_,_,b_27,_⟩:=b27_;obtain ⟨f26,b26_⟩:=id y;obtain ⟨_,_,_,_,_,_,_,_,_,b_26,_⟩:=b26_;obtain ⟨f31,b31_⟩:=id r;obtain ⟨_,_,_,_,_,_,_,_,_,Y,_⟩:=b31_;obtain ⟨f18,b18_⟩:=id B;obtain ⟨_,_,_,_,_,_,_,_,_,b_18,_⟩:=b18_;obtain ⟨f17,b17_⟩:=id D;obtain ⟨_,_,_,_,_,_,_,_,_,b_17,_⟩:=b17_;obtain ⟨f25,b25_⟩:=id z;obtain ⟨_,_,_,_,_,_,_,_,_,b_25,_⟩:=b25_;have e:=hfa.symm.trans (fD X G R);cases e;obtain ⟨Z,cok,eB⟩:=qbM X G aW a0 a1 a2 a3 a4 a5 a6 a7 a8 zz c_LEAST_PLACE c_MOST_LETTERS c_MOST_PLACE c_MOST_ROOM c_MOST_WORDS ex aB b1 b2 b3 b4 n0 n1 n2 n3 b_24 b_29 W b_27 b_26 Y b_18 b_17 b_25;have T:Tx K mg (caT [("WordError",CW),("NoWords",C0),("NoLook",C1),("NoNumbers",C2),("NoRoom",C3),("NoWord",C4),("NoWorths",C5),("Never",C6),("Full",C7),("Known",C8),("bar",f24),("clash",f29),("in_order",f33),("is_bar",f27),("is_telling",f26),("least_room",f31),("numbered",f18),("pairs",f17),("worths",f25),("Words",C)]):=⟨qS X G q0,qS X G q1,qS X G q2,qS X G q3,qS X G q4,qS X G q5,qS X G q6,qS X G q7,qS X G q8,qS X G q9,qS X G q10,qS X G q11,qS X G q12,qS X G q13,qS X G q14,qS X G q15,qS X G q16,qS X G D,qS X G B,qS X G q19,qS X G q20,qS X G q21,qS X G q22,qS X G q23,qS X G A,qS X G z,qS X G y,qS X G x,qS X G q28,qS X G u,qS X G q30,qS X G r,qS X G q32,qS X G p,by rw [eB]; exact ⟨c,_,(uP (st:=ja) g m k),⟨V,o,k⟩,(uP (st:=ja) g m k).binds (λ_ _ _ _ _ _ us hl=>by revert hl; refine λhl=>qbK (P:=λus=>fG _ ⟨us,[]⟩=pure (cS _ us)) hl ?_; intros; rfl)⟩,by rw [eB]; exact ⟨f,_,(uP (st:=qG) d j i),⟨y1,U,n,y2⟩,(uP (st:=qG) d j i).binds (λ_ _ _ _ _ _ us hl=>by revert hl; refine λhl=>qbL (P:=λus=>fG _ ⟨us,[]⟩=pure (cS _ us)) hl ?_; intros; rfl)⟩,qS X G q36,qS X G q37,qS X G q38⟩
 have F:=uP (st:=Wf) I O J;exact ⟨_,λs v=>.of_eq rfl,λbase _ _=>(qax (e0:=⟨l.prog,w,K,mg,base,_⟩) Z T F).imp λvs H Q E q=>qbN cok vs H Q E q⟩
theorem qcE {l:dA} {q:eH} {loose:List Str} {XP:(Str->Option d5)->Heap->Prop} {YP:eI->Heap->Prop} {d:DefRec} {K:fZ->Frag} (b:l.most=d4 63) (hdf:d.params.defaults=[])
  (D:∀ (w:eI) (h:Heap),YP w h->(K w.params).In h)
  (F:∀ (w:eI) (mg:Str->Option d5) (fa:Addr) (h:Heap),(K w.params).In h->h.Ns ei mg->mg d.name=d4 (.ref fa) ->∃ fd:fA,(∀ (s:d9) (u:d5),ip s fd ⟨[u],[]⟩ [("_law_script",u)])/\∀ base:Heap,(K w.params).In base->base.Ns ei mg->FnOk l.prog w (K w.params) mg base (CXk l.prog w) 10 fa fd ["_law_script"] (Yh (K w.params))) :
  PySem.W.WalkO q loose XP YP l.row.toRowW d [] (λf vs=>dY f vs):=
 L2.YV (n:=63) (k:=10) (x := "_law_script") (CX:=λw=>CXk l.prog w) (sp:=λw=>Yh (K w.params)) b (by decide) hdf ⟨rfl,by decide,by decide⟩ D F (λ_ _ a ns hl _ U=>⟨a,ns,rfl,U,λ_=>rfl⟩) λw H s e s' z=>by obtain ⟨ex,T,C,H',_,_,_,_,_,_,_,_,_,_,q⟩:=z;exact q.elim
end Kx
open PySem PySem.W PyProof.Rows
set_option maxRecDepth 100000 in
set_option maxHeartbeats 0 in
theorem PySem.Challenge.cw_lookwords_k01_words_holds : PySem.Challenge.rw_lookwords_k01_words.Holds := by
  refine Kx.hd ?_;k_fill
  refine Kx.qcE (l := PySem.Challenge.rw_lookwords_k01_words) rfl rfl (λw h Y => PySem.W.kIn_of Y) ?F
  case F =>
    intro w mg fa h X G g;refine' Kx.qay X G g ?_ ?_ ?_ ?_ ?_ ?_ ?_ ?_ ?_ ?_ ?_ ?_ ?_ ?_ ?_ ?_ ?_ ?_ ?_ ?_ ?_ ?_ ?_ ?_ ?_ ?_ ?_ ?_ ?_ ?_ ?_ ?_ ?_ ?_ ?_ ?_ ?_ ?_ ?_ ?_ ?_ ?_ ?_ ?_ ?_ ?_ ?_ ?_ ?_ ?_ ?_ ?_ ?_ ?_ ?_ ?_ ?_ ?_ ?_ ?_ ?_ ?_ ?_ ?_ ?_ ?_ ?_ ?_ ?_ ?_ ?_ ?_ ?_ ?_ ?_ ?_;all_goals try first | k_is | exact ⟨_, _, _, _, _, _, _, _, _, _, by unfold Kx.NsX; k_is, by unfold Kx.LkX; k_is, by unfold Kx.CdX; k_is, by unfold Kx.KpX; k_is⟩ | (unfold Kx.LkM; k_is) | kernel_rfl
