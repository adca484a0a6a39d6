import PyProof.Rows.All
import KE.KTryMore
import KE.KItem
import KE.KRevSl
import KE.KRevIter
import KE.KDictList
import PySem.Challenge.RW_lookwords_k32_whole_apart
open List renaming mem_cons_of_mem→aa,mem_cons→ac,getElem?_eq_getElem→af,mem_cons_self→ah,length_append→ai,mem_map→aj,mem_append→ak,mem_singleton→am,length_cons→ap,size_toArray→aq,length_map→au,getElem?_set_ne→aw,getElem?_eq_some_iff→aA,map_cons→aC,mem_filter→aD,range→aF,getElem?_map→aG,getElem?_set_self→aH,not_mem_nil→aJ,nodup_cons→aK,mem_range→aL,mem_append_right→aM,pairwise_cons→aQ,Nodup→aR,mem_of_getElem?→aU,append_assoc→aV,append_nil→aZ,length_nil→ba,map_map→bo,all_eq_true→bp,getElem_mem→bq,find?_cons_of_neg→bw,map_congr_left→bC,length_range→bD,getElem?_append_right→bF,find?_cons_of_pos→bH,getElem?_eq_none_iff→bI,getElem?_append_left→bJ,mem_of_find?_eq_some→bL,filterMap_cons→bM,mem_flatMap→bS,map_append→bW,getElem?_eq_none→bZ,length_filter_le→b6,eq_nil_of_length_eq_zero→b9,nodup_append→cg,map_nil→ck,length_pos_of_mem→cm,length_set→cy,pairwise_append→cC,any_cons→cF,filterMap_cons_some→cI,replicate_zero→cL,find?_eq_none→cR,find?_cons→cS,reverse_cons→cT,pairwise_map→cV,replicate→cY,nil_append→dg,mem_filterMap→dh,length_zipIdx→dn,getElem?_replicate→dq,nodup_nil→dI,ext_getElem?→dJ,flatMap_cons→dL,mem_range'_1→dM,length_replicate→dN,getElem?_toArray→dP,lookup_cons→dQ,mem_append_left→dW,mem_iff_getElem→dY,foldl_cons→d5,filter_map→d6,filter_eq_self→d8,getElem?_range→d9,map_filterMap→eB,foldl_append→eJ,getElem_inj→eS,take_length→eV,zipIdx_cons→eX,map_id'→e6,of_mem_zip→e7,find?_some→fg,length→fj,zip→fm,all_cons→fy,range'→fJ
open PySem.Heap renaming get?_push_of_some→ae,get?_push_size→ao,lt_size→ay,get?_update_self→aN,get?_update_other→aS,size_push→bP,SameBut→bQ,ExtBut→fG
open Nat renaming le_refl→ax,ne_of_lt→aE,lt_of_lt_of_le→aI,le_trans→bc,zero_le→bB,lt_irrefl→bO,ne_of_gt→c7,le_add_right→c8,le_of_lt→dF,succ_ne_self→dR,pow_le_pow_right→dZ,le_antisymm→d4,le_of_eq→eh,sub_self→et,le_succ→eE,lt_succ_of_lt→eI,lt_trans→eZ
open Or renaming inl→aB,inr→cN
open Bool renaming and_eq_true→aO,false_ne_true→bf,false_eq_true→ez
open PySem.Str renaming ofString→aP,length→fC
open Option renaming some→aT,map_eq_some_iff→bb,bind_eq_some_iff→ce,isSome_map→eG
open PySem.PassesOwn renaming leaving→aX
open Decidable renaming byContradiction→aY
open PySem.Around renaming under_plainId→be
open PySem renaming strKind→bg,mem_of_lookup→cK,call→fK
open PyProof.Rows renaming callWith_type1→bh,slot_tuple_getitem→cJ
open PySem.Builtin.List renaming listExtendWith→bi,listSameRef→cH,listTooLong→de
open Array renaming getElem?_toList→bj,getElem?_eq_getElem→bK,length_toList→bN,getElem?_eq_none→cQ,mk→fF
open PySem.Heap.SameBut renaming update→bn
open PySem.SetTable renaming below→br,grown→cM,orStandIn→dm,laid→fz
open PySem.Builtin.Slice renaming sliceAdjust→bu,slicePlaces→c9
open Ne renaming symm→bv
open PySem.Builtin.Frozenset renaming updateFrom→bx,isAnySet→cu
open Sum renaming inr→bz,inl→dS
open PySem.NameKind renaming free→bA
open Int renaming emod_eq_of_lt→bE,emod_lt_of_pos→bG,emod_nonneg→bX,dvd_self_sub_emod→b7,toNat_natCast→cB,emod_eq_zero_of_dvd→cO,dvd_sub→c6,eq_ofNat_of_zero_le→dB,dvd_of_emod_eq_zero→dD,dvd_add→dE,mul_assoc→eQ,mul_sub→fH,one_mul→fI
open PySem.F renaming called_set→bR,slot_tuple_iterator_next→bU,plain_min_loop→cn,args_tuple_add_2→db,entry_tuple_add→dv,plainAttrs_list→dw,slot_tuple_add→dG,slot_dict_get→dO,entry_min_loop→eU
open PySem.W renaming emptyDict→bT,hideAll→bV,kitOne→b8,instObj→cx,kia_one→cz,fnOf→cA,excIn→df,exmOne→dH,hideAll_none→dU,hideAll_get→d7,methodObj→eC,OpenLaw→e9,lookIn→fh
open Classical renaming byContradiction→bY
open PySem.Value renaming ref→cf,none→cq,bool→cP,isStrOf→eN,str→eR,int→fq,type→fB
open PySem.SeqAt renaming ne_of_list_tuple→ci
open ForInStep renaming yield→cj
open List.Perm renaming refl→cr
open PySem.Builtin.SmallTypes renaming nextOf→cw
open PySem.Obj renaming mapSeq→cE,putSet→fE
open PySem.Builtin.Tuple renaming tupleExact→cG
open PySem.Builtin.Str renaming strSliceIndices→cU
open True renaming intro→cW
open False renaming elim→cX
open Eq renaming trans→cZ
open PySem.Calls renaming spliced_cons→dk,evalArgs_plain→dX,spliced_nil→eD
open PyProof.Rows.F renaming plain_set_update_loop→dA
open List.Pairwise renaming nil→eF,map→eL,imp→eM
open PySem.Paired renaming length→eO
open PySem.Txt renaming join→eT
open Prod renaming mk→eY
open PySem.Moved renaming trans→fk
open PySem.Shared renaming TypeIs→fA
open PySem.Walks renaming list→fL
noncomputable section
open PySem.W (Frag nsIn keepIn codeIn mg_of mg_none_of)
set_option Elab.async false
set_option linter.all false
set_option maxRecDepth 100000
namespace Kx
noncomputable section
open PySem PySem.W PySem.Calls PyProof.Rows
noncomputable def zP:Pos:=⟨0,0,0,0⟩
noncomputable def anV:Option Value:=some (.ref 6)
noncomputable def hA (P:Params):List Obj:=(boot_heap P).objs.toList++[⟨.type "tuple",none,.seq #[] 0,#[]⟩,⟨.none,none,.fields #[],#[]⟩,
 ⟨.type "code",none,.fields #[.str "<module>" 182,.str "<module>" 183,.str "/claim/cut.py" 184,.int 1 0,.int 0 0,.int 0 0,.int 0 0,.int 0 0,.ref 11,.bool false,.int 181 0,.ref 12,.none,.none,.none,.none,.int 185 0,.int 1 0,.str "/claim/cut.py" 186],#[]⟩,
 ⟨.type "frame",none,.plain,#[some (.ref 13),some (.ref 3),some (.ref 3),none,some (.str "__main__" 164),none,some (.ref 0)]⟩]
noncomputable def enP (p:Program):Env:={ scope:=p.main.scope,locals:=mainNs,globals:=mainNs,cells:=[],code:=.ref 13,frame:=some 14 }
noncomputable def cdP (p:Program):Code:=.body (behindTheImports p) (enP p)
noncomputable def trA:List Obj->Nat->BT->BT
 | [],_,t=>t
 | o::l,i,t=>trA l (i+1) (t.ins i o)
noncomputable def SA (w:World) (os:OsState):SharedT:=⟨trA (hA w.params) 0 .nil,15,(boot_heap w.params).life,fF [],boot_drawn,187,os⟩
noncomputable def qfH (p:Program) (w:World) (M:Nat) (os:OsState):Option (Flow×Code×Shared):=
 (segRunT treeTable p w 11 anV 1 M (SA w os) (piecesOf (behindTheImports p) (enP p) (cdP p) zP [topFrame zP])).bind fun r=>
  (topRun treeTable p w 11 anV 5 r.2.1.abs (restOf [] (enP p) (cdP p) r.2.2.2 [topFrame zP])).map fun s=>(r.1,r.2.2.1,s)
abbrev qbG (p q:Program) (loose:List Str) (Xt:Shared->Bool) (w:World) (x:Flow×Code×Shared):=
 (x.1,x.2.1,(staticsOk (importedModules p.main.body) (boot_heap w.params) x.2.2.heap&&namesBound p x.2.2.heap&&gensDone x.2.2&&laidKept (boot_heap w.params) x.2.2.heap),openSeen q loose (importedModules p.main.body) Xt true x.2.2)
theorem left_T {p q:Program} {loose:List Str} {Xt:Shared->Bool} {α:Type} {Yf:Shared->α} {Ya:World->α} {N M:Nat}
  (e:opening p=plainProg p.main.scope.names) (hN:Nat.ble 600 N=true) (f:∀ s,fenceModules? p s=some s)
  (size:∀ w:World,((boot_heap w.params).isNs mainGlobals&&(fF []:Array GenState).size == 0,(boot_heap w.params).objs.size,(boot_heap w.params).nsMap mainGlobals "__annotations__")=(true,11,anV))
  (pre:∀ (w:World) (os:OsState),topGo treeTable p w 11 anV 12 ⟨boot_heap w.params,fF [],boot_drawn,boot_toks,os⟩ (topStub p)=some ((SA w os).abs,⟨denote treeTable (cdP p),cdP p,zP,[topFrame zP]⟩))
  (blk:∀ (w:World) (os:OsState),segRun treeTable p w 11 anV 1 1 (SA w os).abs (blockOf (behindTheImports p) (enP p) (cdP p) zP [topFrame zP])=some (.next,(SA w os).abs,cdP p,zP))
  (le:Nat.ble (12+(1+(M+5))) N=true)
  (m1:∀ (w:World) (os:OsState),(qfH p w M os).map (qbG p q loose Xt w)=some (.next,cdP p,true,openGood q loose))
  (m2:∀ (w:World) (os:OsState),(qfH p w M os).map (fun x=>Yf x.2.2)=some (Ya w)):LeftO p q loose Xt Yf Ya N:=fun w=>by
 obtain ⟨⟨h,gs,d,k,os⟩,a,a'⟩:=bb.mp (boot_open e hN f w)
 obtain ⟨rfl,rfl,rfl,rfl⟩:h=boot_heap w.params/\gs=fF []/\d=boot_drawn/\k=boot_toks:=by simpa using a'
 obtain ⟨x,hx,hl⟩:=bb.mp (m1 w os)
 obtain ⟨y,hy,hY⟩:=bb.mp (m2 w os)
 obtain rfl:y=x:=aT.inj (hy.symm.trans hx)
 obtain ⟨r,hr,hz⟩:=ce.mp hx
 obtain ⟨s,hs,rfl⟩:=bb.mp hz
 obtain ⟨fl,st,co,po⟩:=r
 unfold qbG at hl
 simp only [eY.injEq] at hl
 obtain ⟨rfl,rfl,l1,l2⟩:=hl
 have t1:=piece_app (rest:=[]) (segRun_of hr) hs
 rw [aZ] at t1
 have t2:=piece_block (blk w os) t1
 have t3:=topRun_mono (N - (12+(1+(M+5)))) _ _ _ _ (go_top (pre w os) t2)
 rw [show 12+(1+(M+5))+(N - (12+(1+(M+5))))=N by have:=Nat.le_of_ble_eq_true le; omega] at t3
 obtain ⟨z1,z2,z3⟩:_/\_/\_:=by simpa only [eY.injEq] using size w
 have t:topFrom treeTable p w N ⟨boot_heap w.params,fF [],boot_drawn,boot_toks,os⟩=some s:=by
  unfold topFrom
  dsimp only
  rw [z1,z2,z3,t3]
  show (match staticsOk (importedModules p.main.body) (boot_heap w.params) s.heap&&namesBound p s.heap&&gensDone s&&laidKept (boot_heap w.params) s.heap with | true=>_ | false=>_)=_
  rw [l1]
 unfold openEnds
 rw [a]
 show (topFrom treeTable p w N _).map _=_
 rw [t]
 exact congrArg some (Prod.ext l2 hY)
end
end Kx
noncomputable section
open PySem PySem.W PyProof.Rows
noncomputable def Kx.vq:Program:=view PySem.Challenge.pw_lookwords_k32_whole_apart [1,2,3,4,5,7,8,9,10,11,12,13,14,15,16,17,18,19,20,21,23,24,25,27,28,29,30,31,32,33,34,35,36,37,38,39,40,42,44,45,46,47,48,49,51,52,53,54,55,56,57,58,59,60,61,62,63]
noncomputable def Kx.xt (s:Shared):Bool:=xlAt Kx.vq [] s&&recOk (RowW.records (OpenRow.toRowW (OpenLaw.row PySem.Challenge.rw_lookwords_k32_whole_apart))) s
theorem Kx.m1:∀ (w:World) (os:OsState),(Kx.qfH PySem.Challenge.pw_lookwords_k32_whole_apart w 15000 os).map (Kx.qbG PySem.Challenge.pw_lookwords_k32_whole_apart Kx.vq [] Kx.xt w)=some (.next,Kx.cdP PySem.Challenge.pw_lookwords_k32_whole_apart,true,openGood Kx.vq []):=by intro w os; kernel_rfl
local macro_rules | `(tactic| o_head $H) => `(tactic| (refine holds_open (q := Kx.vq) (loose := []) (Xt := Kx.xt) (XP := XL Kx.vq []) (Yf := Hook.obs $H) (Ya := Hook.val $H) (YP := Hook.says $H) (N := 20000) ?hl (Hook.of $H) (Hook.keeps $H) (fun s e => xl_of s (Bool.and_eq_true_iff.mp e).1) XL.keeps (by rfl) (by rfl) (by rfl) (fun s e => recFacts_of (Bool.and_eq_true_iff.mp e).2) (by rfl) (by first | assumption | decide +kernel) (by decide +kernel) ⟨rfl, rfl, rfl, rfl, rfl, by decide +kernel⟩ ?hw ?hc; (case hl => refine Kx.left_T (p := PySem.Challenge.pw_lookwords_k32_whole_apart) (M := 15000) ?e rfl ?f ?s ?p ?b rfl Kx.m1 ?m; (case e => kernel_rfl); (case f => intro s; kernel_rfl); (case s => intro w; kernel_rfl); (case p => intro w os; kernel_rfl); (case b => intro w os; kernel_rfl); (case m => intro w os; kernel_rfl))))
set_option maxHeartbeats 0 in
open_top Kx.hd for PySem.Challenge.rw_lookwords_k32_whole_apart
end
namespace L2
open PySem PySem.Spec PyProof.Rows
abbrev Key:=Sum Int Str
noncomputable def Je:Key->Value->Bool
 | .inl k,v=>Value.isInt k v
 | .inr x,v=>eN x v
noncomputable def qhk (w:World):Key->Int
 | .inl k=>hashInt k
 | .inr x=>hashStr w x
theorem jh:∀ {k:Key} {v:Value},Je k v=true->(∃ i t,k=dS i/\v=fq i t)\/(∃ x t,k=bz x/\v=eR x t)
 | .inl i,v,h=>by
  obtain ⟨t,e⟩:=Value.isInt_shape (k:=i) (v:=v) h
  exact .inl ⟨i,t,rfl,e⟩
 | .inr x,v,h=>by
  obtain ⟨t,e⟩:=Value.isStrOf_shape (x:=x) (v:=v) h
  exact .inr ⟨x,t,rfl,e⟩
theorem Jf (i:Int) (t:Tok):Je (.inl i) (.int i t)=true:=by simp [Je,Value.isInt]
theorem Jg (x:Str) (t:Tok):Je (.inr x) (.str x t)=true:=by simp [Je,eN]
theorem qdr (a b:Int):decide ((dS a:Key)=dS b)=(a == b):=by
 by_cases e:a=b
 ·subst e; simp
 ·have h:¬(dS a:Key)=dS b:=fun q=>e (dS.inj q)
  rw [decide_eq_false h]
  exact (beq_eq_false_iff_ne.mpr e).symm
theorem qds (a b:Str):decide ((bz a:Key)=bz b)=decide (a=b):=by
 by_cases e:a=b
 ·subst e; simp
 ·have h:¬(bz a:Key)=bz b:=fun q=>e (bz.inj q)
  rw [decide_eq_false h,decide_eq_false e]
theorem qdt (a:Int) (b:Str):decide ((dS a:Key)=bz b)=false:=decide_eq_false (fun q=>nomatch q)
theorem qdu (a:Str) (b:Int):decide ((bz a:Key)=dS b)=false:=decide_eq_false (fun q=>nomatch q)
noncomputable def jH (prog:Program) (w:World):PySem.KeyKind prog w Key where
 is:=Je
 hash:=qhk w
 inj:=fun v a b ha hb=>by
  rcases jh ha with ⟨i,t,rfl,rfl⟩ | ⟨x,t,rfl,rfl⟩
  ·rcases jh hb with ⟨j,u,rfl,e⟩ | ⟨y,u,rfl,e⟩
   ·injection e with e1 _; rw [e1]
   ·exact nomatch e
  ·rcases jh hb with ⟨j,u,rfl,e⟩ | ⟨y,u,rfl,e⟩
   ·exact nomatch e
   ·injection e with e1 _; rw [e1]
 byValue:=fun k v h=>by
  rcases jh h with ⟨i,t,rfl,rfl⟩ | ⟨x,t,rfl,rfl⟩ <;> rfl
 pyHash:=fun hv h=>by
  rcases jh hv with ⟨i,t,rfl,rfl⟩ | ⟨x,t,rfl,rfl⟩
  ·exact wpAny_pyHash_int h
  ·exact wpAny_pyHash_str h
 eqBool:=fun hu hv h=>by
  rcases jh hu with ⟨i,t,rfl,rfl⟩ | ⟨x,t,rfl,rfl⟩
  ·rcases jh hv with ⟨j,u,rfl,rfl⟩ | ⟨y,u,rfl,rfl⟩
   ·rw [qdr] at h; exact wpAny_eqBool_int h
   ·rw [qdt] at h; exact SeqAt.EqAt.int_str i t y u _ _ _ _ h
  ·rcases jh hv with ⟨j,u,rfl,rfl⟩ | ⟨y,u,rfl,rfl⟩
   ·rw [qdu] at h; exact SeqAt.EqAt.str_int x t j u _ _ _ _ h
   ·rw [qds] at h; exact wpAny_eqBool_str h
 «strs»:=fun k x t v h=>by
  rcases jh h with ⟨i,u,rfl,e⟩ | ⟨y,u,rfl,e⟩
  ·exact nomatch e
  ·injection e with e1 _
   subst e1
   cases v <;> rfl
theorem KD (prog:Program) (w:World) (i:Int) (t:Tok):(jH prog w).is (.inl i) (.int i t)=true:=Jf i t
theorem KF (prog:Program) (w:World) (x:Str) (t:Tok):(jH prog w).is (.inr x) (.str x t)=true:=Jg x t
inductive V where
 | non | bl (b:Bool) | int (i:Int) | str (x:Str) | byt (b:Array UInt8) | flt (b:UInt64) | ref (a:Addr) | ty (n:String)
 deriving DecidableEq
def RelV:V->Value->Prop
 | .non,u=>u=cq
 | .bl b,u=>u=cP b
 | .int i,u=>∃ t,u=fq i t
 | .str x,u=>∃ t,u=eR x t
 | .byt b,u=>∃ t,u=Value.bytes b t
 | .flt b,u=>∃ t,u=Value.float b t
 | .ref a,u=>u=cf a
 | .ty n,u=>u=fB n
abbrev Vals:List V->List Value->Prop:=Paired RelV
variable {xs:List V} {us:List Value}
theorem Vals.length (r:Vals xs us):xs.length=us.length:=eO r
theorem Vals.get:∀ {xs:List V} {us:List Value} {i:Nat} {x:V},Vals xs us->xs[i]?=some x->∃ u,us[i]?=some u/\RelV x u
 | _,_,_,_,.nil,e=>by simp at e
 | _,_,0,_,.cons r _,e=>by simp at e; subst e; exact ⟨_,rfl,r⟩
 | _,_,i+1,x,.cons _ t,e=>by
  obtain ⟨u,h1,h2⟩:=Vals.get (i:=i) (x:=x) t (by simpa using e)
  exact ⟨u,by simpa using h1,h2⟩
variable {u:Value}
theorem Vals.set {x:V} (r:RelV x u):∀ {xs:List V} {us:List Value} (i:Nat),Vals xs us->Vals (xs.set i x) (us.set i u)
 | _,_,_,.nil=>.nil
 | _,_,0,.cons _ t=>.cons r t
 | _,_,i+1,.cons q t=>.cons q (Vals.set r i t)
theorem Vals.append:∀ {xs ys:List V} {us ws:List Value},Vals xs us->Vals ys ws->Vals (xs++ys) (us++ws)
 | _,_,_,_,.nil,s=>s
 | _,_,_,_,.cons r t,s=>.cons r (Vals.append t s)
theorem Vals.take:∀ {xs:List V} {us:List Value} (n:Nat),Vals xs us->Vals (xs.take n) (us.take n)
 | _,_,0,_=>.nil
 | _,_,_+1,.nil=>.nil
 | _,_,n+1,.cons r t=>.cons r (Vals.take n t)
theorem Vals.none_of:∀ {xs:List V} {us:List Value} {i:Nat},Vals xs us->xs[i]?=none->us[i]?=none:=fun {xs us i} r e=>by
 have h1:=r.length
 have h2:xs.length<=i:=bI.mp e
 exact bI.mpr (by omega)
def RelO:Option V->Option Value->Prop
 | some v,some u=>RelV v u
 | none,none=>True
 | _,_=>False
def KV {κ:Type}:List (κ×V)->List (κ×Value)->Prop:=Paired fun (p:κ×V) (q:κ×Value)=>p.1=q.1/\RelV p.2 q.2
noncomputable def kV:Key->V
 | .inl i=>.int i
 | .inr x=>.str x
inductive HO where
 /-- a list -/
 | lst (xs:List V)
 /-- a tuple (never changes) -/
 | tup (xs:List V)
 /-- a dict whose keys are ints and texts; one whose keys are tuples of ints and texts (the empty one is both) -/
 | dK (kvs:List (Key×V)) | dT (kvs:List (List Key×V))
 /-- a set of ints: its members,its size -/
 | set (S:Int->Bool) (n:Nat)
 /-- an instance of the class at C,its dict at dx,its attributes -/
 | ins (C dx:Addr) (fs:List (Str×V))
 /-- the dict of the instance at x -/
 | own (x:Addr)
 /-- the dict of an exception -/
 | xd (fs:List (Str×V))
 /-- a bound method,f of x -/
 | met (f x:Addr)
 /-- a range object lo,lo+1,.. below hi -/
 | rng (lo hi:Int)
 /-- a thing that is known to the object (the script; a dict while a loop walks it): read,never written while it is so -/
 | frz (o:Obj) (u:HO)
 /-- a code object's table -/
 | tbl (ps:Array Value)
 /-- any other thing,by what is true of its one object (a def of one's own: SetO a S n:=HO.ext fun h=>..) -/
 | ext (φ:Heap->Prop)
abbrev Hp:=Addr->Option HO
noncomputable def upd (H:Hp) (a:Addr) (o:HO):Hp:=fun b=>if b=a then some o else H b
variable {H:Hp} {a:Addr} {o:HO}
theorem qo:upd H a o a=some o:=by unfold upd; rw [if_pos rfl]
variable {b:Addr}
theorem qx (h:b≠a):upd H a o b=H b:=by unfold upd; rw [if_neg h]
theorem qfI {u:HO} (h:H a=some o) (h':H b=some u) (d:o≠u):a≠b:=by
 intro e; subst e; rw [h] at h'; exact d (aT.inj h')
theorem qI (h:H a=some o) (h':H b=none):a≠b:=by
 intro e; subst e; rw [h] at h'; cases h'
section
variable (P:Program) (w:World)
def ObjOk (H:Hp) (h:Heap) (a:Addr):HO->Prop
 | .lst xs=>xs.length<=sizeLine/\∃ (its:List Value) (n:Nat),Vals xs its/\h.get? a=some { cls:=.type "list",data:=.seq its.toArray n }
 | .tup xs=>(xs.length<=sizeLine/\∃ o,h.get? a=some o/\o.dict=none)/\∃ its:List Value,Vals xs its/\IsTup h a its.toArray
 | .dK kvs=>kvs.length<=sizeLine/\(a == sysModules)=false/\∃ vs,KV kvs vs/\h.DictOf (jH P w) a vs
 | .dT kvs=>kvs.length<=sizeLine/\(a == sysModules)=false/\∃ xs:List (List Key×Addr×Value),
   Paired (fun (p:List Key×V) (q:List Key×Addr×Value)=>p.1=q.1/\H q.2.1=some (.tup (p.1.map kV))/\RelV p.2 q.2.2) kvs xs /\
   ∃ o es ep,h.get? a=some o/\o.ExactDict/\o.data=.dict es ep/\es.toList=xs.map (entryOfKey (tupleKind (jH P w)))/\(xs.map (·.1)).Nodup
 | .set S n=>h.SetOf (intKind P w) a S n
 | .ins C dx fs=>H dx=some (.own a)/\fs.length<=1000/\dx≠a/\h.get? a=some (cx C dx) /\
   ∃ mA,h.Ns1 dx mA/\(∀ f,RelO (fs.lookup f) (mA f))/\PySem.Within mA (fs.map (·.1))
 | .own _=>∃ o,h.get? a=some o
 | .xd fs=>∃ mA,h.Ns1 a mA/\∀ f,RelO (fs.lookup f) (mA f)
 | .rng lo hi=>∃ t u v,h.get? a=some { cls:=.type "range",data:=.fields #[.int lo t,.int hi u,.int 1 v] }
 | .frz o u=>h.get? a=some o/\ObjOk H h a u
 | .tbl ps=>h.get? a=some { cls:=.none,data:=.fields ps }
 | .met f x=>h.get? a=some (eC (.ref f) (.ref x))
 | .ext φ=>φ h/\(∃ o,h.get? a=some o)/\∀ h1 h2:Heap,φ h1->(∀ o,h1.get? a=some o->h2.get? a=some o)->φ h2
def HOk (H:Hp) (h:Heap):Prop:=∀ a o,H a=some o->ObjOk P w H h a o
end
variable {P:Program} {w:World} {H':Hp} {h h':Heap} {α:Type}
section
theorem ObjOk.lt (x:ObjOk P w H h a o):a < h.objs.size:=by
 cases o with
 | lst xs=>obtain ⟨_,_,_,_,e⟩:=x; exact ay e
 | tup xs=>obtain ⟨_,_,_,p⟩:=x; exact p.lt
 | dK kvs=>obtain ⟨_,_,_,_,o,_,_,e,_⟩:=x; exact ay e
 | dT kvs=>obtain ⟨_,_,_,_,o,_,_,e,_⟩:=x; exact ay e
 | set S n=>obtain ⟨o,_,_,_,e,_⟩:=x; exact ay e
 | ins C dx fs=>obtain ⟨_,_,_,e,_⟩:=x; exact ay e
 | own y=>obtain ⟨_,e⟩:=x; exact ay e
 | xd fs=>obtain ⟨_,⟨_,_,_,e,_⟩,_⟩:=x; exact ay e
 | rng lo hi=>obtain ⟨_,_,_,e⟩:=x; exact ay e
 | frz ob u=>obtain ⟨e,_⟩:=x; exact ay e
 | tbl ps=>exact ay (show h.get? a=some _ from x)
 | met f y=>exact ay (show h.get? a=some _ from x)
 | ext φ=>obtain ⟨_,⟨_,e⟩,_⟩:=x; exact ay e
theorem Paired.mapP {β:Type} {F G:α->β->Prop}:∀ {l₁:List α} {l₂:List β},Paired F l₁ l₂->(∀ a b,F a b->G a b)->Paired G l₁ l₂
 | _,_,.nil,_=>.nil
 | _,_,.cons r t,f=>.cons (f _ _ r) (Paired.mapP t f)
theorem ObjOk.stay (x:ObjOk P w H h a o) (k:∀ b u,(b=a\/H b=some (.own a))->h.get? b=some u->h'.get? b=some u)
  (ho:∀ b,H b=some (.own a)->H' b=some (.own a)) (ht:∀ b xs,H b=some (.tup xs)->H' b=some (.tup xs)):ObjOk P w H' h' a o:=by
 induction o with
 | lst xs=>obtain ⟨z,its,n,r,e⟩:=x; exact ⟨z,its,n,r,k _ _ (.inl rfl) e⟩
 | tup xs=>obtain ⟨⟨z,o2,e2,d2⟩,its,r,ob,e,c⟩:=x; exact ⟨⟨z,o2,k _ _ (.inl rfl) e2,d2⟩,its,r,ob,k _ _ (.inl rfl) e,c⟩
 | dK kvs=>obtain ⟨z,y,vs,r,ob,es,ep,e,c⟩:=x; exact ⟨z,y,vs,r,ob,es,ep,k _ _ (.inl rfl) e,c⟩
 | dT kvs=>
  obtain ⟨z,y,xs,r,ob,es,ep,e,c⟩:=x
  exact ⟨z,y,xs,Paired.mapP r fun p q z=>⟨z.1,ht _ _ z.2.1,z.2.2⟩,ob,es,ep,k _ _ (.inl rfl) e,c⟩
 | set S n=>obtain ⟨ob,es,ep,t,e,c⟩:=x; exact ⟨ob,es,ep,t,k _ _ (.inl rfl) e,c⟩
 | ins C dx fs=>
  obtain ⟨d,z,ne,e,mA,⟨od,es,ep,e2,c⟩,r⟩:=x
  exact ⟨ho _ d,z,ne,k _ _ (.inl rfl) e,mA,⟨od,es,ep,k _ _ (.inr d) e2,c⟩,r⟩
 | own y=>obtain ⟨ob,e⟩:=x; exact ⟨ob,k _ _ (.inl rfl) e⟩
 | xd fs=>obtain ⟨mA,⟨od,es,ep,e,c⟩,r⟩:=x; exact ⟨mA,⟨od,es,ep,k _ _ (.inl rfl) e,c⟩,r⟩
 | rng lo hi=>obtain ⟨t,u,v,e⟩:=x; exact ⟨t,u,v,k _ _ (.inl rfl) e⟩
 | frz ob u ih=>obtain ⟨e,q⟩:=x; exact ⟨k _ _ (.inl rfl) e,ih q⟩
 | tbl ps=>
  have e:h.get? a=some { cls:=.none,data:=.fields ps }:=x
  show h'.get? a=some { cls:=.none,data:=.fields ps }
  exact k a _ (.inl rfl) e
 | met f y=>
  have e:h.get? a=some (eC (.ref f) (.ref y)):=x
  show h'.get? a=some (eC (.ref f) (.ref y))
  exact k a _ (.inl rfl) e
 | ext φ=>obtain ⟨p,⟨o,e⟩,st⟩:=x; exact ⟨st _ _ p fun o q=>k _ _ (.inl rfl) q,⟨o,k _ _ (.inl rfl) e⟩,st⟩
theorem HOk.lt (x:HOk P w H h) (e:H a=some o):a < h.objs.size:=(x a o e).lt
theorem HOk.fresh (x:HOk P w H h) (e:h.objs.size<=a):H a=none:=by
 cases q:H a with
 | none=>rfl
 | some u=>exact absurd (aI (x.lt q) e) (bO _)
theorem HOk.kept (x:HOk P w H h) (k:∀ b u,h.get? b=some u->h'.get? b=some u):HOk P w H h':=fun a o e=>
 (x a o e).stay (fun b u _ q=>k b u q) (fun _ q=>q) fun _ _ q=>q
theorem HOk.laid (x:HOk P w H h) (k:∀ b u,h.get? b=some u->h'.get? b=some u) (hp:h.objs.size<=a) (new:ObjOk P w (upd H a o) h' a o):HOk P w (upd H a o) h':=fun b u e=>by
 have hn:=x.fresh hp
 by_cases hb:b=a
 ·subst hb; rw [qo] at e; cases e; exact new
 ·rw [qx hb] at e
  exact (x b u e).stay (fun c v _ q=>k c v q) (fun c q=>by rw [qx (qI q hn)]; exact q) fun c xs q=>by rw [qx (qI q hn)]; exact q
end
def Rd (H:Hp) (a:Addr) (u:HO):Prop:=H a=some u\/∃ o,H a=some (.frz o u)
theorem Rd.ok {u:HO} (r:Rd H a u) (x:HOk P w H h):ObjOk P w H h a u:=by
 rcases r with r | ⟨o,r⟩
 ·exact x a u r
 ·obtain ⟨_,q⟩:=x a _ r
  exact q
def Mut:Option HO->Prop
 | some (.lst _)=>True
 | some (.dK _)=>True
 | some (.dT _)=>True
 | some (.set _ _)=>True
 | some (.ins _ _ _)=>True
 | some (.ext _)=>True
 | _=>False
section
variable {x e:Addr} {o':HO}
theorem HOk.write (ok:HOk P w H h) (mu:Mut (H x)) (he:e=x\/H e=some (.own x)) (k:∀ b u,b≠e->h.get? b=some u->h'.get? b=some u) (heo:∃ u,h'.get? e=some u)
  (new:ObjOk P w (upd H x o') h' x o'):HOk P w (upd H x o') h':=fun b u q=>by
 have nown:∀ c y,H c=some (.own y)->c≠x:=fun c y r z=>by subst z; rw [r] at mu; exact mu
 have ntup:∀ c xs,H c=some (.tup xs)->c≠x:=fun c xs r z=>by subst z; rw [r] at mu; exact mu
 by_cases hb:b=x
 ·subst hb; rw [qo] at q; cases q; exact new
 ·rw [qx hb] at q
  by_cases hbe:b=e
  ·have q':H b=some (.own x):=by
    rcases he with z | z
    ·exact absurd (hbe.trans z) hb
    ·rw [hbe]; exact z
   rw [q] at q'; cases q'
   obtain ⟨v,hv⟩:=heo
   exact ⟨v,by rw [hbe]; exact hv⟩
  ·refine (ok b u q).stay (fun c v hc r=>k c v ?_ r) (fun c r=>by rw [qx (nown c b r)]; exact r) fun c xs r=>by rw [qx (ntup c xs r)]; exact r
   rcases hc with rfl | hc
   ·exact hbe
   ·rintro rfl
    rcases he with z | z
    ·exact nown c b hc z
    ·rw [hc] at z; cases z; exact hb rfl
end
structure Un (fs ex:List Addr) (H H':Hp) (h h':Heap):Prop where
 keep:∀ b o,h.get? b=some o->H b=none->b∉fs->b∉ex->h'.get? b=some o
 slot:∀ b o,h.get? b=some o->H b=none->b∈fs->b∉ex->∃ sl,h'.get? b=some { o with slots:=sl }
 free:∀ b o,h.get? b=some o->H b=none->b∉ex->H' b=none
 there:∀ b o,h.get? b=some o->b∉ex->∃ o',h'.get? b=some o'
 tups:∀ b xs,H b=some (.tup xs)->H' b=some (.tup xs)
 frzs:∀ b o u,H b=some (.frz o u)->H' b=some (.frz o u)
 tbls:∀ b ps,H b=some (.tbl ps)->∃ more,H' b=some (.tbl (ps++more))
section
variable {fs fs' ex ex':List Addr} {H1 H2:Hp} {h1 h2:Heap} {x e:Addr}
theorem Un.any (u:Un fs ex H H1 h h1) {ob:Obj} (q:h.get? b=some ob) (n:H b=none) (hx:b∉ex):∃ sl,h1.get? b=some { ob with slots:=sl }:=by
 by_cases hb:b∈fs
 ·exact u.slot b ob q n hb hx
 ·exact ⟨ob.slots,u.keep b ob q n hb hx⟩
theorem Un.kept (k:∀ b u,h.get? b=some u->h'.get? b=some u):Un fs ex H H h h':=
 ⟨fun b ob q _ _ _=>k b ob q,fun b ob q _ _ _=>⟨ob.slots,k b ob q⟩,fun _ _ _ n _=>n,fun b ob q _=>⟨ob,k b ob q⟩,fun _ _ q=>q,fun _ _ _ q=>q,fun _ ps q=>⟨#[],by rw [q]; simp⟩⟩
theorem Un.refl:Un fs ex H H h h:=Un.kept fun _ _ q=>q
theorem Un.laid (k:∀ b u,h.get? b=some u->h'.get? b=some u) (hp:h.objs.size<=a) (hn:H a=none):Un fs ex H (upd H a o) h h' where
 keep:=fun b u q _ _ _=>k b u q
 slot:=fun b u q _ _ _=>⟨u.slots,k b u q⟩
 free:=fun b u q n _=>by rw [qx (aE (aI (ay q) hp))]; exact n
 there:=fun b u q _=>⟨u,k b u q⟩
 tups:=fun b xs q=>by rw [qx (qI q hn)]; exact q
 frzs:=fun b u xs q=>by rw [qx (qI q hn)]; exact q
 tbls:=fun b ps q=>⟨#[],by rw [qx (qI q hn),q]; simp⟩
theorem Un.write (mu:Mut (H x)) (he:e=x\/H e=some (.own x)) (k:∀ b u,b≠e->h.get? b=some u->h'.get? b=some u) (heo:∃ u,h'.get? e=some u):Un fs ex H (upd H x o) h h':=by
 have hx:∀ b,H b=none->b≠x:=fun b n z=>by subst z; rw [n] at mu; exact mu
 have hb:∀ b,H b=none->b≠e:=fun b n z=>by
  subst z
  rcases he with r | r
  ·exact hx b n r
  ·rw [n] at r; cases r
 have hm:∀ b u,H b=some u->¬Mut (some u)->b≠x:=fun b u q nm z=>by subst z; rw [q] at mu; exact nm mu
 refine ⟨fun b u q n _ _=>k b u (hb b n) q,fun b u q n _ _=>⟨u.slots,k b u (hb b n) q⟩,fun b u q n _=>by rw [qx (hx b n)]; exact n,fun b u q _=>?_,
  fun b xs q=>by rw [qx (hm b _ q fun z=>z)]; exact q,fun b u xs q=>by rw [qx (hm b _ q fun z=>z)]; exact q,fun b ps q=>⟨#[],by rw [qx (hm b _ q fun z=>z),q]; simp⟩⟩
 by_cases hbe:b=e
 ·subst hbe; exact heo
 ·exact ⟨u,k b u hbe q⟩
end
noncomputable def trk (h:Heap) (H:Hp):List Addr:=(aF h.objs.size).filter fun a=>(H a).isSome
noncomputable def Ga (h:Heap) (H:Hp):Heap:=bV h (trk h H)
theorem Ym (h:Heap) (H:Hp):(Ga h H).objs.size=h.objs.size:=PySem.W.hideAll_size _ _
theorem Gb {o:Obj} (e:h.get? b=some o) (n:H b=none):(Ga h H).get? b=some o:=
 d7 _ e fun hm=>by
  have q:(H b).isSome=true:=(aD.mp hm).2
  rw [n] at q; simp at q
theorem qbH {o:Obj} (e:(Ga h H).get? b=some o):h.get? b=some o/\H b=none:=by
 have e':h.get? b=some o:=PySem.W.of_hideAll (trk h H) e
 refine ⟨e',?_⟩
 cases q:H b with
 | none=>rfl
 | some x=>
  have hm:b∈trk h H:=aD.mpr ⟨aL.mpr (ay e'),by simp [q]⟩
  have z:(Ga h H).get? b=none:=dU (trk h H) hm
  rw [z] at e; cases e
noncomputable def qbI (g h:Heap) (L:Addr):List (Addr×Obj):=(aF h.objs.size).filterMap fun a=>if a=L\/(g.get? a).isSome=true then none else (h.get? a).map fun o=>(a,o)
noncomputable def rest (g h:Heap) (L d:Addr):List (Addr×Obj):=(qbI g h L).filter fun p=>decide (p.1≠d)
structure Mod (K:Frag) (mg:Str->Option Value) (base:Heap):Prop where
 kin:K.In base
 glob:base.Ns mainGlobals mg
 blt:∃ mb,base.Ns builtinsNs mb/\∀ x:Str,x ≠ "__name__"->mb x=bootBuiltins x
 nolimit:base.NoLimit
structure Cx where
 prog:Program
 w:World
 K:Frag
 mg:Str->Option Value
 base:Heap
 A:Around
 N:List Str
 s₀:Shared
 H₀:Hp
 env:Env
 outer:List Env
 stack:List Env
 ex:List Addr
 fn:Str->Bool
 calm:Bool
 pn:List (Addr×Obj)
 xe:Value->Shared->Prop
noncomputable def frs (l:List Env):List Addr:=l.filterMap (·.frame)
abbrev Cx.fs (X:Cx):List Addr:=frs X.outer
def Vis (sc:Scope) (x:Str):Prop:=sc.names.lookup x=some .local\/sc.names.lookup x=some .cell\/sc.names.lookup x=some .free
def Loc (sc:Scope) (x:Str):Prop:=sc.names.lookup x=some .local\/sc.names.lookup x=some .cell
def Yk (env:Env) (h:Heap) (m:Str->Option Value) (x:Str) (u:Value):Prop:=
 (env.kindOf x=some .local/\m x=some u)\/((env.kindOf x=some .cell\/env.kindOf x=some .free)/\∃ c,env.cells.lookup x=some c/\h.IsCell c (some u))
structure Cx.Ok (X:Cx):Prop where
 mod:Mod X.K X.mg X.base
 kind:X.env.scope.kind=.function
 glob:X.env.globals=mainGlobals
 blt:X.env.builtins=builtinsNs
 above:X.s₀.heap.objs.size<=X.env.locals
 inj:∀ x y c,X.env.cells.lookup x=some c->X.env.cells.lookup y=some c->x=y
 has:∀ x,(X.env.kindOf x=some .cell\/X.env.kindOf x=some .free)->∃ c,X.env.cells.lookup x=some c
 cab:∀ x c,X.fn x=true->X.env.cells.lookup x=some c->X.s₀.heap.objs.size<=c
 hd:X.calm=true->X.A.handled=none
 frames:X.A.frames=some X.stack
 stk:X.stack=X.outer\/(X.stack=X.env::X.outer/\X.env.frame=some X.env.locals)
 exf:∀ b∈X.ex,b≠X.env.locals/\∀ x c,X.env.cells.lookup x=some c->c≠b
 bs:∀ b o,X.base.get? b=some o->X.s₀.heap.get? b=some o/\X.H₀ b=none
 bsz:X.base.objs.size<=X.s₀.heap.objs.size
 noex:∀ b o,X.base.get? b=some o->b∉X.ex
 exfs:∀ b∈X.ex,b∉X.fs
 funs:X.s₀.heap.FunFrames X.base X.outer
 frf:∀ b∈X.fs,X.H₀ b=none
structure Inv (X:Cx) (pins:List (Addr×Obj)) (σ:List (Option V)) (H:Hp) (s:Shared):Prop where
 ok:X.Ok
 os:s.os=X.s₀.os
 bare:AllBare s.gens
 base:Un X.fs X.ex X.H₀ H X.s₀.heap s.heap
 loc:∃ m,s.heap.Ns X.env.locals m/\∀ (i:Nat) (x:Str) (v:V),X.N[i]?=some x->σ[i]?=some (some v)->Vis X.env.scope x->∃ u,RelV v u/\Yk X.env s.heap m x u
 cell:∀ x c,X.env.cells.lookup x=some c->∃ v,s.heap.IsCell c v
 free:H X.env.locals=none
 freeC:∀ x c,X.env.cells.lookup x=some c->H c=none
 pin:∀ p∈X.pn++pins,s.heap.get? p.1=some p.2/\H p.1=none/\p.1≠X.env.locals/\p.1∉X.fs/\∀ v,p.2.data≠.cell v
 hok:HOk X.prog X.w H s.heap
 len:σ.length=X.N.length
variable {x:Str} {X:Cx} {pins:List (Addr×Obj)} {s s':Shared} {t' i:Nat} {it:Addr} {v:V}
section
variable {σ:List (Option V)}
theorem Cx.Ok.nofr (ok:X.Ok) {o:Obj} (e:X.base.get? b=some o):b∉X.fs:=fun hb=>by
 have:=(ok.funs.mem hb).1
 rw [e] at this; cases this
theorem Inv.bs (I:Inv X pins σ H s):∀ b o,X.base.get? b=some o->s.heap.get? b=some o/\H b=none:=fun b o e=>
 ⟨I.base.keep b o (I.ok.bs b o e).1 (I.ok.bs b o e).2 (I.ok.nofr e) (I.ok.noex b o e),I.base.free b o (I.ok.bs b o e).1 (I.ok.bs b o e).2 (I.ok.noex b o e)⟩
theorem Inv.bk (I:Inv X pins σ H s):∀ b o,X.base.get? b=some o->s.heap.get? b=some o:=fun b o e=>(I.bs b o e).1
theorem Inv.mod (I:Inv X pins σ H s):Mod X.K X.mg X.base:=I.ok.mod
theorem Inv.kIn (I:Inv X pins σ H s):X.K.In s.heap:=I.ok.mod.kin.keeps I.bk
theorem Inv.nolimit (I:Inv X pins σ H s):s.heap.NoLimit:=I.ok.mod.nolimit.keeps I.bk
theorem Inv.fr (I:Inv X pins σ H s):∃ m,Fr X.base X.env.locals s.heap m:=
 let ⟨m,hn,_⟩:=I.loc
 ⟨m,hn,I.bk,bc I.ok.bsz I.ok.above⟩
theorem Inv.lt (I:Inv X pins σ H s):X.env.locals < s.heap.objs.size:=let ⟨_,hn,_⟩:=I.loc; hn.lt
theorem Inv.sz (I:Inv X pins σ H s):X.s₀.heap.objs.size<=s.heap.objs.size:=bc I.ok.above (dF I.lt)
theorem Inv.nofs (I:Inv X pins σ H s) (h:s.heap.objs.size<=a):a∉X.fs:=fun hb=>by
 obtain ⟨_,o,ho,_⟩:=I.ok.funs.mem hb
 exact absurd (aI (ay ho) (bc I.sz h)) (bO _)
theorem Inv.cne (I:Inv X pins σ H s):∀ x c,X.env.cells.lookup x=some c->c≠X.env.locals:=fun x c e z=>by
 obtain ⟨v,o,ho,hd⟩:=I.cell x c e
 obtain ⟨m,⟨o',es,ep,ho',hd',_⟩,_⟩:=I.loc
 rw [z,ho'] at ho; cases ho; rw [hd'] at hd; cases hd
theorem Inv.funs (I:Inv X pins σ H s):s.heap.FunFrames X.base X.outer:=by
 have all:∀ (l:List Env),(∀ b∈frs l,b∈X.fs)->X.s₀.heap.FunFrames X.base l->s.heap.FunFrames X.base l:=by
  intro l
  induction l with
  | nil=>intro _ _; trivial
  | cons env r ih=>
   intro hs hl
   obtain ⟨hk,⟨L,o,hf,hn,ho,hd⟩,hr⟩:=hl
   have hL:L∈X.fs:=hs L (by unfold frs; rw [bM,hf]; exact ah)
   obtain ⟨sl,e⟩:=I.base.slot L o ho (I.ok.frf L hL) hL fun z=>I.ok.exfs L z hL
   exact ⟨hk,⟨L,_,hf,hn,e,hd⟩,ih (fun b hb=>hs b (by unfold frs; rw [bM,hf]; exact aa _ hb)) hr⟩
 exact all X.outer (fun _ hb=>hb) I.ok.funs
theorem Inv.stack (I:Inv X pins σ H s):s.heap.FunFrames X.base X.stack:=by
 rcases I.ok.stk with e | ⟨e,hf⟩
 ·rw [e]; exact I.funs
 ·rw [e]
  obtain ⟨m,hn,_⟩:=I.loc
  refine .cons (by rw [I.ok.kind]; decide) hf hn ?_ I.funs
  exact Heap.get?_none_of_le (bc I.ok.bsz I.ok.above)
theorem Inv.stkSub (I:Inv X pins σ H s):∀ b∈frs X.stack,b∈X.env.locals::X.fs:=fun b hb=>by
 rcases I.ok.stk with e | ⟨e,hf⟩
 ·rw [e] at hb; exact aa _ hb
 ·rw [e] at hb
  unfold frs at hb
  rw [bM,hf] at hb
  exact hb
theorem Inv.stkFree (I:Inv X pins σ H s):∀ b∈frs X.stack,H b=none:=fun b hb=>by
 rcases ac.mp (I.stkSub b hb) with e | hb
 ·rw [e]; exact I.free
 ·obtain ⟨_,o,ho,_⟩:=I.ok.funs.mem hb
  exact I.base.free b o ho (I.ok.frf b hb) fun z=>I.ok.exfs b z hb
theorem Inv.step {g':Array GenState} {t':Nat} {d':Drawn} {ch:List Addr} (I:Inv X pins σ H s)
  (hch:∀ b∈ch,(b∈X.ex\/X.s₀.heap.objs.size<=b)/\b≠X.env.locals/\(∀ x c,X.env.cells.lookup x=some c->c≠b)/\∀ p∈X.pn++pins,p.1≠b)
  (keep:∀ b o,b≠X.env.locals->b∉X.fs->b∉ch->s.heap.get? b=some o->H b=none->h'.get? b=some o)
  (slot:∀ b o,b≠X.env.locals->b∈X.fs->b∉ch->s.heap.get? b=some o->H b=none->∃ sl,h'.get? b=some { o with slots:=sl }) (free:∀ b o,b∉ch->s.heap.get? b=some o->H b=none->H' b=none)
  (there:∀ b o,b∉ch->s.heap.get? b=some o->∃ o',h'.get? b=some o')
  (tups:∀ b xs,H b=some (.tup xs)->H' b=some (.tup xs)) (frzs:∀ b o u,H b=some (.frz o u)->H' b=some (.frz o u)) (tbls:∀ b ps,H b=some (.tbl ps)->∃ more,H' b=some (.tbl (ps++more)))
  (ns:∀ m,s.heap.Ns X.env.locals m->h'.Ns X.env.locals m) (hok:HOk X.prog X.w H' h') (hg:AllBare g') :
  Inv X pins σ H' { s with heap:=h',gens:=g',drawn:=d',toks:=t' }:=by
 have neL:∀ b o,X.s₀.heap.get? b=some o->b≠X.env.locals:=fun b o e=>aE (aI (ay e) I.ok.above)
 have neC:∀ b o,X.s₀.heap.get? b=some o->b∉X.ex->b∉ch:=fun b o e hx hb=>by
  rcases (hch b hb).1 with z | z
  ·exact hx z
  ·exact absurd (aI (ay e) z) (bO _)
 have cellK:∀ x c,X.env.cells.lookup x=some c->∀ v,s.heap.IsCell c v->h'.IsCell c v:=fun x c e v ⟨o,ho,hd⟩=>by
  have nch:c∉ch:=fun z=>(hch c z).2.2.1 x c e rfl
  by_cases hc:c∈X.fs
  ·obtain ⟨sl,q⟩:=slot c o (I.cne x c e) hc nch ho (I.freeC x c e)
   exact ⟨_,q,hd⟩
  ·exact ⟨o,keep c o (I.cne x c e) hc nch ho (I.freeC x c e),hd⟩
 refine ⟨I.ok,I.os,hg,⟨fun b o e n hb hx=>?_,fun b o e n hb hx=>?_,fun b o e n hx=>?_,fun b o e hx=>?_,fun b xs e=>tups b xs (I.base.tups b xs e),fun b o xs e=>frzs b o xs (I.base.frzs b o xs e),fun b ps e=>?_⟩,?_,fun x c e=>?_,?_,fun x c e=>?_,fun p hp=>?_,hok,I.len⟩
 ·exact keep b o (neL b o e) hb (neC b o e hx) (I.base.keep b o e n hb hx) (I.base.free b o e n hx)
 ·obtain ⟨sl,e1⟩:=I.base.slot b o e n hb hx
  obtain ⟨sl',e2⟩:=slot b _ (neL b o e) hb (neC b o e hx) e1 (I.base.free b o e n hx)
  exact ⟨sl',e2⟩
 ·obtain ⟨o',e1⟩:=I.base.there b o e hx
  exact free b o' (neC b o e hx) e1 (I.base.free b o e n hx)
 ·obtain ⟨o',e1⟩:=I.base.there b o e hx
  exact there b o' (neC b o e hx) e1
 ·obtain ⟨m1,e1⟩:=I.base.tbls b ps e
  obtain ⟨m2,e2⟩:=tbls b _ e1
  exact ⟨m1++m2,by rw [e2,Array.append_assoc]⟩
 ·obtain ⟨m,hn,hl⟩:=I.loc
  refine ⟨m,ns m hn,fun i x v e1 e2 e3=>?_⟩
  obtain ⟨u,r,l⟩:=hl i x v e1 e2 e3
  refine ⟨u,r,?_⟩
  rcases l with l | ⟨k,c,e,z⟩
  ·exact .inl l
  ·exact .inr ⟨k,c,e,cellK x c e _ z⟩
 ·obtain ⟨v,z⟩:=I.cell x c e
  exact ⟨v,cellK x c e v z⟩
 ·obtain ⟨m,⟨o,_,_,ho,_⟩,_⟩:=I.loc
  exact free _ o (fun z=>(hch _ z).2.1 rfl) ho I.free
 ·obtain ⟨v,o,ho,hd⟩:=I.cell x c e
  exact free c o (fun z=>(hch c z).2.2.1 x c e rfl) ho (I.freeC x c e)
 ·obtain ⟨e,n,ne,nf,d⟩:=I.pin p hp
  have nch:p.1∉ch:=fun z=>(hch p.1 z).2.2.2 p hp rfl
  exact ⟨keep p.1 p.2 ne nf nch e n,free p.1 p.2 nch e n,ne,nf,d⟩
theorem Inv.un (I:Inv X pins σ H s) (u:Un X.fs [] H H' s.heap h') (hok:HOk X.prog X.w H' h'):Inv X pins σ H' { s with heap:=h',toks:=t' }:=by
 obtain ⟨m,⟨o,es,ep,ho,r⟩,_⟩:=id I.loc
 obtain ⟨sl,hL⟩:=u.any ho I.free (by simp)
 exact I.step (g':=s.gens) (d':=s.drawn) (ch:=[]) (fun _ z=>nomatch z) (fun b o _ hb _ e n=>u.keep b o e n hb (by simp)) (fun b o _ hb _ e n=>u.slot b o e n hb (by simp)) (fun b o _ e n=>u.free b o e n (by simp)) (fun b o _ e=>u.there b o e (by simp)) u.tups u.frzs u.tbls (fun m' hm=>by
  obtain ⟨o',es',ep',ho',r'⟩:=hm
  rw [ho] at ho'; cases ho'
  exact ⟨_,es',ep',hL,r'⟩) hok I.bare
theorem Inv.call {g':Array GenState} {t':Nat} {d':Drawn} {ch:List Addr} (I:Inv X pins σ H s) (u:Un (frs X.stack) ch H H' s.heap h') (hok:HOk X.prog X.w H' h') (hg:AllBare g')
  (hch:∀ b∈ch,(b∈X.ex\/X.s₀.heap.objs.size<=b)/\b≠X.env.locals/\(∀ x c,X.env.cells.lookup x=some c->c≠b)/\∀ p∈X.pn++pins,p.1≠b) :
  Inv X pins σ H' { s with heap:=h',gens:=g',drawn:=d',toks:=t' }:=by
 obtain ⟨m,⟨o,es,ep,ho,r⟩,_⟩:=id I.loc
 obtain ⟨sl,hL⟩:=u.any ho I.free fun z=>(hch _ z).2.1 rfl
 exact I.step (ch:=ch) hch (fun b o hL hb hc e n=>u.keep b o e n (fun z=>(ac.mp (I.stkSub b z)).elim hL hb) hc) (fun b o _ _ hc e n=>u.any e n hc) (fun b o hc e n=>u.free b o e n hc) (fun b o hc e=>u.there b o e hc) u.tups u.frzs u.tbls (fun m' hm=>by
  obtain ⟨o',es',ep',ho',r'⟩:=hm
  rw [ho] at ho'; cases ho'
  exact ⟨_,es',ep',hL,r'⟩) hok hg
theorem Inv.turned {t':Nat} (I:Inv X pins σ H s) (k:∀ b o,b≠it->s.heap.get? b=some o->h'.get? b=some o) (hn:H it=none) (hL:it≠X.env.locals)
  (h1:it∈X.ex\/X.s₀.heap.objs.size<=it) (h2:∀ x c,X.env.cells.lookup x=some c->c≠it) (h3:∀ p∈X.pn++pins,p.1≠it):Inv X pins σ H { s with heap:=h',toks:=t' }:=by
 have nit:∀ b u,H b=some u->b≠it:=fun b u e z=>by rw [z,hn] at e; cases e
 refine I.step (g':=s.gens) (d':=s.drawn) (ch:=[it]) (fun b hb=>?_) (fun b o _ _ hc e _=>k b o (fun z=>hc (by simp [z])) e) (fun b o _ _ hc e _=>⟨o.slots,k b o (fun z=>hc (by simp [z])) e⟩) (fun _ _ _ _ n=>n)
  (fun b o hc e=>⟨o,k b o (fun z=>hc (by simp [z])) e⟩) (fun _ _ e=>e) (fun _ _ _ e=>e) (fun b ps e=>⟨#[],by rw [e]; simp⟩) (fun m hm=>?_) (fun b u e=>?_) I.bare
 ·have e:b=it:=by simpa using hb
  subst e
  exact ⟨h1,hL,h2,h3⟩
 ·obtain ⟨o,es,ep,ho,r⟩:=hm
  exact ⟨o,es,ep,k _ o (bv hL) ho,r⟩
 ·refine (I.hok b u e).stay (fun c v hc q=>k c v ?_ q) (fun _ q=>q) fun _ _ q=>q
  rcases hc with z | z
  ·rw [z]; exact nit b u e
  ·exact nit c _ z
theorem Inv.tok (I:Inv X pins σ H s) (t:Nat):Inv X pins σ H { s with toks:=t }:=I.un (h':=s.heap) (t':=t) Un.refl I.hok
theorem Inv.kept (I:Inv X pins σ H s) (k:∀ b u,s.heap.get? b=some u->h'.get? b=some u):Inv X pins σ H { s with heap:=h',toks:=t' }:=I.un (Un.kept k) (I.hok.kept k)
theorem Inv.laid {t':Nat} (I:Inv X pins σ H s) (k:∀ b u,s.heap.get? b=some u->h'.get? b=some u) (hp:s.heap.objs.size<=a) (new:ObjOk X.prog X.w (upd H a o) h' a o) :
  Inv X pins σ (upd H a o) { s with heap:=h',toks:=t' }:=I.un (Un.laid k hp (I.hok.fresh hp)) (I.hok.laid k hp new)
theorem Inv.write {x e:Addr} {o:HO} {t':Nat} (I:Inv X pins σ H s) (mu:Mut (H x)) (he:e=x\/H e=some (.own x)) (k:∀ b u,b≠e->s.heap.get? b=some u->h'.get? b=some u) (heo:∃ u,h'.get? e=some u)
  (new:ObjOk X.prog X.w (upd H x o) h' x o):Inv X pins σ (upd H x o) { s with heap:=h',toks:=t' }:=I.un (Un.write mu he k heo) (I.hok.write mu he k heo new)
theorem Inv.pins_of {pins':List (Addr×Obj)} (I:Inv X pins σ H s) (h:∀ p∈pins',s.heap.get? p.1=some p.2/\H p.1=none/\p.1≠X.env.locals/\p.1∉X.fs/\∀ v,p.2.data≠.cell v):Inv X pins' σ H s:=
 ⟨I.ok,I.os,I.bare,I.base,I.loc,I.cell,I.free,I.freeC,fun p hp=>(ak.mp hp).elim (fun z=>I.pin p (dW _ z)) (h p),I.hok,I.len⟩
theorem VU {N:List Str} (hN:N.Nodup) {j:Nat} (a:N[i]?=some x) (b:N[j]?=some x):i=j:=by
 obtain ⟨h1,e1⟩:=aA.mp a
 obtain ⟨h2,e2⟩:=aA.mp b
 exact (eS hN).mp (e1.trans e2.symm)
theorem Jh {M:Model} {A:Around} {E:Value->Shared->Prop} {Q:Unit->Shared->Prop} (I:Inv X pins σ H s) (hN:X.N.Nodup) (hi:X.N[i]?=some x) (hx:Loc X.env.scope x) (r:RelV v u)
  (h:∀ s',Inv X pins (σ.set i (some v)) H s'->(∃ a,bQ a s.heap s'.heap/\(a=X.env.locals\/X.env.cells.lookup x=some a))->Q () s') (hf:X.fn x=true\/X.env.scope.names.lookup x=some .local:=by first | exact .inl rfl | exact .inr rfl | assumption):wpAny M A (storeName X.env x u) Q E s:=by
 obtain ⟨m,hn,hl⟩:=id I.loc
 have hcls:(X.env.scope.kind == .class||(X.env.scope.kind == .module&&X.env.locals != X.env.globals))=false:=by rw [I.ok.kind]; rfl
 have hiσ:i < σ.length:=by rw [I.len]; exact (aA.mp hi).1
 have cne:=I.cne
 have tracked:∀ {a:Addr} {h':Heap},(∃ o,s.heap.get? a=some o/\H a=none)->bQ a s.heap h'->HOk X.prog X.w H h':=fun {a h'} ha hs b ob e=>by
  obtain ⟨_,_,hfree⟩:=ha
  refine (I.hok b ob e).stay (fun c w' hc q=>(hs.2 c ?_).trans q) (fun _ q=>q) fun _ _ q=>q
  rintro rfl
  rcases hc with rfl | hc
  ·rw [hfree] at e; cases e
  ·rw [hfree] at hc; cases hc
 rcases hx with hk | hk
 ·refine wpAny_storeName_local hk hn (fun h' hn' hs=>?_) hcls
  obtain ⟨oL,_,_,hoL,_⟩:=id hn
  refine h _ ⟨I.ok,I.os,I.bare,⟨fun b o e n hb hx=>?_,fun b o e n hb hx=>?_,I.base.free,fun b o e hx=>?_,I.base.tups,I.base.frzs,I.base.tbls⟩,⟨_,hn',fun j y v' e1 e2 e3=>?_⟩,fun y c e=>?_,I.free,I.freeC,fun p hp=>?_,tracked ⟨oL,hoL,I.free⟩ hs,by simpa using I.len⟩ ⟨_,hs,.inl rfl⟩
  ·exact (hs.2 b (aE (aI (ay e) I.ok.above))).trans (I.base.keep b o e n hb hx)
  ·obtain ⟨sl,e1⟩:=I.base.slot b o e n hb hx
   exact ⟨sl,(hs.2 b (aE (aI (ay e) I.ok.above))).trans e1⟩
  ·obtain ⟨o',e1⟩:=I.base.there b o e hx
   exact ⟨o',(hs.2 b (aE (aI (ay e) I.ok.above))).trans e1⟩
  ·by_cases hj:j=i
   ·subst hj
    rw [hi] at e1; cases e1
    rw [aH hiσ] at e2
    cases e2
    exact ⟨u,r,.inl ⟨hk,by simp⟩⟩
   ·rw [aw (bv hj)] at e2
    obtain ⟨u',r',q⟩:=hl j y v' e1 e2 e3
    refine ⟨u',r',?_⟩
    rcases q with ⟨k,e⟩ | ⟨k,c,e,z⟩
    ·refine .inl ⟨k,?_⟩
     have:y≠x:=fun e=>hj (VU hN e1 (e ▸ hi))
     simp [this,e]
    ·exact .inr ⟨k,c,e,z.sameBut hs (cne y c e)⟩
  ·obtain ⟨w',z⟩:=I.cell y c e
   exact ⟨w',z.sameBut hs (cne y c e)⟩
  ·obtain ⟨e,n,ne,nf,d⟩:=I.pin p hp
   exact ⟨(hs.2 p.1 ne).trans e,n,ne,nf,d⟩
 ·have hfn:X.fn x=true:=by
   rcases hf with z | z
   ·exact z
   ·rw [z] at hk; cases hk
  obtain ⟨c,hc⟩:=I.ok.has x (.inl hk)
  obtain ⟨w',z⟩:=I.cell x c hc
  refine wpAny_storeName_cell I.ok.kind hk hc z (fun h' hc' hs=>?_)
  obtain ⟨oc,hoc,hocd⟩:=id z
  refine h { s with heap:=h' } ⟨I.ok,I.os,I.bare,⟨fun b o e n hb hx=>?_,fun b o e n hb hx=>?_,I.base.free,fun b o e hx=>?_,I.base.tups,I.base.frzs,I.base.tbls⟩,⟨m,hn.sameBut hs (bv (cne x c hc)),fun j y v' e1 e2 e3=>?_⟩,fun y c' e=>?_,I.free,I.freeC,fun p hp=>?_,tracked ⟨oc,hoc,I.freeC x c hc⟩ hs,by simpa using I.len⟩ ⟨c,hs,.inr hc⟩
  ·exact (hs.2 b (aE (aI (ay e) (I.ok.cab x c hfn hc)))).trans (I.base.keep b o e n hb hx)
  ·obtain ⟨sl,e1⟩:=I.base.slot b o e n hb hx
   exact ⟨sl,(hs.2 b (aE (aI (ay e) (I.ok.cab x c hfn hc)))).trans e1⟩
  ·obtain ⟨o',e1⟩:=I.base.there b o e hx
   exact ⟨o',(hs.2 b (aE (aI (ay e) (I.ok.cab x c hfn hc)))).trans e1⟩
  ·by_cases hj:j=i
   ·subst hj
    rw [hi] at e1; cases e1
    rw [aH hiσ] at e2
    cases e2
    exact ⟨u,r,.inr ⟨.inl hk,c,hc,hc'⟩⟩
   ·rw [aw (bv hj)] at e2
    obtain ⟨u',r',q⟩:=hl j y v' e1 e2 e3
    refine ⟨u',r',?_⟩
    rcases q with q | ⟨k,c',e,z'⟩
    ·exact .inl q
    ·refine .inr ⟨k,c',e,z'.sameBut hs ?_⟩
     rintro rfl
     exact hj (VU hN e1 (I.ok.inj _ _ _ e hc ▸ hi))
  ·by_cases hcc:c'=c
   ·subst hcc; exact ⟨_,hc'⟩
   ·obtain ⟨w2,z2⟩:=I.cell y c' e
    exact ⟨w2,z2.sameBut hs hcc⟩
  ·obtain ⟨e,n,ne,nf,d⟩:=I.pin p hp
   refine ⟨(hs.2 p.1 ?_).trans e,n,ne,nf,d⟩
   intro q
   rw [q,hoc] at e
   have q':oc=p.2:=aT.inj e
   exact d w' (by rw [<-q']; exact hocd)
theorem VV {M:Model} {A:Around} {E:Value->Shared->Prop} {Q:Unit->Shared->Prop} (I:Inv X pins σ H s) (hN:X.N.Nodup) (hi:X.N[i]?=some x) (hx:Loc X.env.scope x) (r:RelV v u)
  (h:∀ s',Inv X pins (σ.set i (some v)) H s'->Q () s') (hf:X.fn x=true\/X.env.scope.names.lookup x=some .local:=by first | exact .inl rfl | exact .inr rfl | assumption):wpAny M A (storeName X.env x u) Q E s:=
 Jh I hN hi hx r (fun s' I' _=>h s' I') hf
theorem Inv.call' {ch:List Addr} (I:Inv X pins σ H s) (ho:s'.os=s.os) (u:Un (frs X.stack) ch H H' s.heap s'.heap) (hok:HOk X.prog X.w H' s'.heap) (hg:AllBare s'.gens)
  (hch:∀ b∈ch,(b∈X.ex\/X.s₀.heap.objs.size<=b)/\b≠X.env.locals/\(∀ x c,X.env.cells.lookup x=some c->c≠b)/\∀ p∈X.pn++pins,p.1≠b):Inv X pins σ H' s':=by
 obtain ⟨h',g',d',t',o'⟩:=s'
 have e:o'=s.os:=ho
 subst e
 exact I.call (g':=g') (t':=t') (d':=d') u hok hg hch
end
abbrev XK:=Value->Option Addr->Hp->Prop
abbrev St:=List (Option V)
abbrev VK:=V->Hp->Prop
abbrev TE:=St->Hp->VK->Prop
abbrev TT:=St->Hp->(Bool->Hp->Prop)->Prop
abbrev TA:=St->Hp->(List V->Hp->Prop)->Prop
structure Ends where
 nx:St->Hp->Prop
 rt:VK
 bk:St->Hp->Prop:=fun _ _=>False
 ct:St->Hp->Prop:=fun _ _=>False
abbrev TS:=Ends->St->Hp->Prop
def EP (X:Cx) (pins:List (Addr×Obj)) (σ:St) (Q:VK) (u:Value) (s':Shared):Prop:=∃ v H',Inv X pins σ H' s'/\RelV v u/\Q v H'
def TP (X:Cx) (pins:List (Addr×Obj)) (σ:St) (Q:Bool->Hp->Prop) (b:Bool) (s':Shared):Prop:=∃ H',Inv X pins σ H' s'/\Q b H'
def AP (X:Cx) (pins:List (Addr×Obj)) (σ:St) (Q:List V->Hp->Prop) (us:List Value) (s':Shared):Prop:=∃ vs H',Inv X pins σ H' s'/\Vals vs us/\Q vs H'
def SP (X:Cx) (pins:List (Addr×Obj)) (D:Ends) (f:Flow) (s':Shared):Prop:=
 match f with
 | .next=>∃ σ' H',Inv X pins σ' H' s'/\D.nx σ' H'
 | .brk=>∃ σ' H',Inv X pins σ' H' s'/\D.bk σ' H'
 | .cont=>∃ σ' H',Inv X pins σ' H' s'/\D.ct σ' H'
 | .ret u=>∃ v σ' H',Inv X pins σ' H' s'/\RelV v u/\D.rt v H'
structure PE (X:Cx) (e:Expr) (t:TE):Prop where
 run:∀ (pins:List (Addr×Obj)) (s:Shared) (σ:St) (H:Hp) (Q:VK),Inv X pins σ H s->t σ H Q->wpAny (model X.prog X.w) X.A (eval e X.env) (EP X pins σ Q) X.xe s
instance {X:Cx} {e:Expr} {t:TE}:CoeFun (PE X e t) (fun _=>∀ (pins:List (Addr×Obj)) (s:Shared) (σ:St) (H:Hp) (Q:VK),Inv X pins σ H s->t σ H Q->wpAny (model X.prog X.w) X.A (eval e X.env) (EP X pins σ Q) X.xe s):=⟨fun h=>h.run⟩
structure PT (X:Cx) (e:Expr) (t:TT):Prop where
 run:∀ (pins:List (Addr×Obj)) (s:Shared) (σ:St) (H:Hp) (Q:Bool->Hp->Prop),Inv X pins σ H s->t σ H Q->wpAny (model X.prog X.w) X.A (isTrue e X.env (eval e X.env)) (TP X pins σ Q) X.xe s
instance {X:Cx} {e:Expr} {t:TT}:CoeFun (PT X e t) (fun _=>∀ (pins:List (Addr×Obj)) (s:Shared) (σ:St) (H:Hp) (Q:Bool->Hp->Prop),Inv X pins σ H s->t σ H Q->wpAny (model X.prog X.w) X.A (isTrue e X.env (eval e X.env)) (TP X pins σ Q) X.xe s):=⟨fun h=>h.run⟩
structure PW (X:Cx) (e:Expr) (t:TT):Prop where
 run:∀ (whole:Sem Value) (pins:List (Addr×Obj)) (s:Shared) (σ:St) (H:Hp) (Q:Bool->Hp->Prop),Inv X pins σ H s->t σ H Q->wpAny (model X.prog X.w) X.A (isTrue e X.env whole) (TP X pins σ Q) X.xe s
instance {X:Cx} {e:Expr} {t:TT}:CoeFun (PW X e t) (fun _=>∀ (whole:Sem Value) (pins:List (Addr×Obj)) (s:Shared) (σ:St) (H:Hp) (Q:Bool->Hp->Prop),Inv X pins σ H s->t σ H Q->wpAny (model X.prog X.w) X.A (isTrue e X.env whole) (TP X pins σ Q) X.xe s):=⟨fun h=>h.run⟩
variable {e:Expr}
theorem PW.pt {t:TT} (h:PW X e t):PT X e t:=⟨h.run _⟩
structure PA (X:Cx) (es:List Expr) (t:TA):Prop where
 run:∀ (pos:Pos) (pins:List (Addr×Obj)) (s:Shared) (σ:St) (H:Hp) (Q:List V->Hp->Prop),Inv X pins σ H s->t σ H Q->wpAny (model X.prog X.w) X.A (spliced (backTo pos (starEach es X.env))) (AP X pins σ Q) X.xe s
instance {X:Cx} {es:List Expr} {t:TA}:CoeFun (PA X es t) (fun _=>∀ (pos:Pos) (pins:List (Addr×Obj)) (s:Shared) (σ:St) (H:Hp) (Q:List V->Hp->Prop),Inv X pins σ H s->t σ H Q->wpAny (model X.prog X.w) X.A (spliced (backTo pos (starEach es X.env))) (AP X pins σ Q) X.xe s):=⟨fun h=>h.run⟩
structure PS (X:Cx) (st:Stmt) (t:TS):Prop where
 run:∀ (pins:List (Addr×Obj)) (s:Shared) (σ:St) (H:Hp) (D:Ends),Inv X pins σ H s->t D σ H->wpAny (model X.prog X.w) X.A (exec st X.env) (SP X pins D) X.xe s
instance {X:Cx} {st:Stmt} {t:TS}:CoeFun (PS X st t) (fun _=>∀ (pins:List (Addr×Obj)) (s:Shared) (σ:St) (H:Hp) (D:Ends),Inv X pins σ H s->t D σ H->wpAny (model X.prog X.w) X.A (exec st X.env) (SP X pins D) X.xe s):=⟨fun h=>h.run⟩
structure PSs (X:Cx) (st:List Stmt) (t:TS):Prop where
 run:∀ (pins:List (Addr×Obj)) (s:Shared) (σ:St) (H:Hp) (D:Ends),Inv X pins σ H s->t D σ H->wpAny (model X.prog X.w) X.A (execs st X.env) (SP X pins D) X.xe s
instance {X:Cx} {st:List Stmt} {t:TS}:CoeFun (PSs X st t) (fun _=>∀ (pins:List (Addr×Obj)) (s:Shared) (σ:St) (H:Hp) (D:Ends),Inv X pins σ H s->t D σ H->wpAny (model X.prog X.w) X.A (execs st X.env) (SP X pins D) X.xe s):=⟨fun h=>h.run⟩
variable {A:Around} {E:Value->Shared->Prop}
theorem thn {t:Sem α} {Q Q':α->Shared->Prop} {M:Model} (h:wpAny M A t Q E s) (hQ:∀ a s,Q a s->Q' a s):wpAny M A t Q' E s:=wpAny_mono h hQ fun _ _ x=>x
variable {σ:St} {pos:Pos} {Q:Value->Shared->Prop} {ta:TE} {c:Expr}
section
def qgL (i:Nat):TE:=fun σ H Q=>∃ v,σ[i]?=some (some v)/\Q v H
def tC (v:V):TE:=fun _ H Q=>Q v H
theorem uW (hN:X.N[i]?=some x) (hv:Vis X.env.scope x) (hd:(x == ("__debug__":Str))=false:=by decide) (hcd:(x == ("__classdict__":Str))=false:=by decide):PE X (.Name x pos) (qgL i):=by
 refine ⟨?_⟩
 intro pins s σ H Q I h
 obtain ⟨v,e,h⟩:=h
 obtain ⟨m,hn,hl⟩:=I.loc
 obtain ⟨u,r,l⟩:=hl i x v hN e hv
 have fin:EP X pins σ Q u s:=⟨v,H,I,r,h⟩
 rcases l with ⟨hk,hm⟩ | ⟨hk,c,hc,hcell⟩
 ·exact wpAny_Name (wpAny_loadName_local I.ok.kind hk hn hm fin) hd
 ·rcases hk with hk | hk
  ·exact wpAny_Name (wpAny_loadName_cell I.ok.kind hk hc hcell fin) hd
  ·exact wpAny_Name (wpAny_loadName_free I.ok.kind hk hc hcell fin hcd) hd
theorem qaV {i j pos}:PE X (.Constant (.int i) j pos) (tC (.int i)):=⟨fun _ _ _ H _ I h=>wpAny_Constant_int ⟨.int i,H,I.tok _,⟨_,rfl⟩,h⟩⟩
theorem qfJ {b j pos}:PE X (.Constant (.bool b) j pos) (tC (.bl b)):=⟨fun _ _ _ H _ I h=>Constant_bool ⟨.bl b,H,I,rfl,h⟩⟩
theorem qdv {j pos}:PE X (.Constant .none j pos) (tC .non):=⟨fun _ _ _ H _ I h=>Constant_none ⟨.non,H,I,rfl,h⟩⟩
theorem qaW {x j pos}:PE X (.Constant (.str x) j pos) (tC (.str x)):=⟨fun _ _ _ H _ I h=>Calls.Constant_str ⟨.str x,H,I.tok _,⟨_,rfl⟩,h⟩⟩
def Gl (X:Cx) (x:Str):Prop:=X.env.kindOf x=some .globalImplicit
theorem KG {E:Value->Shared->Prop} {pos:Pos} (I:Inv X pins σ H s) (hg:Gl X x) (hm:X.mg x=some u) (h:Q u s)
  (hd:(x == ("__debug__":Str))=false:=by decide):wpAny (model X.prog X.w) X.A (eval (.Name x pos) X.env) Q E s:=
 Calls.Name_function_global I.ok.kind hg (Calls.loadGlobal_global (by rw [I.ok.glob]; exact I.mod.glob.keeps I.bk) hm h) hd
theorem uX {E:Value->Shared->Prop} {pos:Pos} (I:Inv X pins σ H s) (hg:Gl X x) (hm:X.mg x=none) (hv:bootBuiltins x=some u) (h:Q u s)
  (hn:x ≠ "__name__":=by decide) (hd:(x == ("__debug__":Str))=false:=by decide):wpAny (model X.prog X.w) X.A (eval (.Name x pos) X.env) Q E s:=by
 obtain ⟨mb,h1,h2⟩:=I.mod.blt
 exact Calls.Name_function_global I.ok.kind hg (Calls.loadGlobal_builtin (by rw [I.ok.glob]; exact I.mod.glob.keeps I.bk) hm (by rw [I.ok.blt]; exact h1.keeps I.bk) ((h2 x hn).trans hv) h) hd
theorem qbJ (hg:Gl X x) (hm:X.mg x=some u) (r:RelV v u) (hd:(x == ("__debug__":Str))=false:=by decide):PE X (.Name x pos) (tC v):=⟨fun _ _ _ H _ I h=>KG I hg hm ⟨v,H,I,r,h⟩ hd⟩
theorem qbK (hg:Gl X x) (hm:X.mg x=none) (hv:bootBuiltins x=some u) (r:RelV v u) (hn:x ≠ "__name__":=by decide) (hd:(x == ("__debug__":Str))=false:=by decide):PE X (.Name x pos) (tC v):=⟨fun _ _ _ H _ I h=>uX I hg hm hv ⟨v,H,I,r,h⟩ hn hd⟩
variable {a b:Expr} {tb:TE}
variable {tA tB':TT} {rest:List Expr}
def qhl (t u:TT):TT:=fun σ H Q=>t σ H fun c H1=>if c=true then u σ H1 Q else Q false H1
def tOr (t u:TT):TT:=fun σ H Q=>t σ H fun c H1=>if c=true then Q true H1 else u σ H1 Q
def qhm (t:TT):TT:=fun σ H Q=>t σ H fun c H1=>Q (!c) H1
theorem qbL (ha:PT X a tA):PW X (.BoolOp .And [a] pos) tA:=by
 refine ⟨?_⟩
 intro wh pins s σ H Q I h
 refine isTrue_and (thn (ha pins s σ H Q I h) fun c s1 e=>?_)
 cases c with
 | true=>exact isTrue_and_nil e
 | false=>exact e
theorem qdw (ha:PT X a tA):PW X (.BoolOp .Or [a] pos) tA:=by
 refine ⟨?_⟩
 intro wh pins s σ H Q I h
 refine isTrue_or (thn (ha pins s σ H Q I h) fun c s1 e=>?_)
 cases c with
 | false=>exact isTrue_or_nil e
 | true=>exact e
theorem qdx (ha:PT X a tA) (hb:PW X (.BoolOp .And (b::rest) pos) tB'):PW X (.BoolOp .And (a::b::rest) pos) (qhl tA tB'):=by
 refine ⟨?_⟩
 intro wh pins s σ H Q I h
 refine isTrue_and (thn (ha pins s σ H _ I h) fun c s1 ⟨H1,I1,q1⟩=>?_)
 cases c with
 | true=>exact hb wh pins s1 σ H1 Q I1 q1
 | false=>exact ⟨H1,I1,q1⟩
theorem qfK (ha:PT X a tA) (hb:PW X (.BoolOp .Or (b::rest) pos) tB'):PW X (.BoolOp .Or (a::b::rest) pos) (tOr tA tB'):=by
 refine ⟨?_⟩
 intro wh pins s σ H Q I h
 refine isTrue_or (thn (ha pins s σ H _ I h) fun c s1 ⟨H1,I1,q1⟩=>?_)
 cases c with
 | true=>exact ⟨H1,I1,q1⟩
 | false=>exact hb wh pins s1 σ H1 Q I1 q1
theorem qdy (ha:PT X a tA):PT X (.UnaryOp .Not a pos) (qhm tA):=by
 refine ⟨?_⟩
 intro pins s σ H Q I h
 exact isTrue_not (ha pins s σ H (fun c H1=>Q (!c) H1) I h)
def qfL (ta tb:TE):TE:=fun σ H Q=>ta σ H fun x H1=>∃ c,x=.bl c/\if c=true then tb σ H1 Q else Q (.bl false) H1
theorem qdz {op} {t:TE} (h:PE X a t):PE X (.BoolOp op [a] pos) t:=⟨fun pins s σ H Q I hw=>BoolOp_one (h pins s σ H Q I hw)⟩
theorem qdA (ha:PE X a ta) (hb:PE X (.BoolOp .And (b::rest) pos) tb):PE X (.BoolOp .And (a::b::rest) pos) (qfL ta tb):=by
 refine ⟨?_⟩
 intro pins s σ H Q I h
 refine BoolOp_and (thn (ha pins s σ H _ I h) fun v s1 ⟨x,H1,I1,r1,q1⟩=>?_)
 obtain ⟨c,rfl,q1⟩:=q1
 cases r1
 refine wpAny_truthy_bool ?_
 cases c with
 | true=>exact hb pins s1 σ H1 Q I1 q1
 | false=>exact ⟨.bl false,H1,I1,rfl,q1⟩
def tIf (t:TT) (ta tb:TE):TE:=fun σ H Q=>t σ H fun c H1=>if c=true then ta σ H1 Q else tb σ H1 Q
theorem Gc (hc:PT X c tA) (ha:PE X a ta) (hb:PE X b tb):PE X (.IfExp c a b pos) (tIf tA ta tb):=by
 refine ⟨?_⟩
 intro pins s σ H Q I h
 refine wpAny_IfExp (thn (hc pins s σ H _ I h) fun d s1 ⟨H1,I1,q1⟩=>?_)
 cases d with
 | true=>exact ha pins s1 σ H1 Q I1 q1
 | false=>exact hb pins s1 σ H1 Q I1 q1
end
def SqL (K:Frag) (H:Hp) (a:Addr) (xs:List V):Prop:=
 Rd H a (.lst xs) \/
  ∃ (o:Obj) (its:Array Value) (n:Nat),K.lookup a=some o/\o.cls=.type "list"/\o.dict=none/\o.data=.seq its n/\its.size<=sizeLine/\Vals xs its.toList
def SqT (K:Frag) (H:Hp) (a:Addr) (xs:List V):Prop:=
 Rd H a (.tup xs) \/
  ∃ (o:Obj) (its:Array Value) (n:Nat),K.lookup a=some o/\(o.cls=.type "tuple"/\o.dict=none)/\o.data=.seq its n/\its.size<=sizeLine/\Vals xs its.toList
noncomputable def qhn:Value->Option V
 | .none=>some .non
 | .bool b=>some (.bl b)
 | .int i _=>some (.int i)
 | .str x _=>some (.str x)
 | .bytes b _=>some (.byt b)
 | .float b _=>some (.flt b)
 | .ref a=>some (.ref a)
 | .type n=>some (.ty n)
 | _=>none
theorem RelV.abs {x:V} (r:RelV x u):qhn u=some x:=by
 cases x with
 | non=>cases r; rfl
 | bl _=>cases r; rfl
 | int _=>obtain ⟨t,rfl⟩:=r; rfl
 | str _=>obtain ⟨t,rfl⟩:=r; rfl
 | byt _=>obtain ⟨t,rfl⟩:=r; rfl
 | flt _=>obtain ⟨t,rfl⟩:=r; rfl
 | ref _=>cases r; rfl
 | ty _=>cases r; rfl
theorem RelV.inj {x y:V} (r:RelV x u) (q:RelV y u):x=y:=aT.inj (r.abs.symm.trans q.abs)
theorem Vals.inj:∀ {xs ys:List V} {us:List Value},Vals xs us->Vals ys us->xs=ys
 | _,_,_,.nil,.nil=>rfl
 | _,_,_,.cons r t,.cons r' t'=>by rw [r.inj r',Vals.inj t t']
variable {K:Frag}
section
variable {ys:List V}
theorem SqT.of (h:H a=some (.tup xs)):SqT K H a xs:=.inl (.inl h)
theorem Inv.list (I:Inv X pins σ H s) (h:SqL X.K H a xs):∃ its:List Value,Vals xs its/\PlainL s.heap a its.toArray/\xs.length<=sizeLine:=by
 rcases h with h | ⟨o,its,n,hk,hc,hd,hs,hz,r⟩
 ·obtain ⟨z,its,n,r,e⟩:=h.ok I.hok
  exact ⟨its,r,⟨_,n,e,rfl,rfl,rfl⟩,z⟩
 ·refine ⟨its.toList,r,⟨o,n,I.kIn a o hk,hc,hd,by simpa using hs⟩,?_⟩
  have e:=r.length
  simp only [bN] at e
  omega
theorem Inv.tuple (I:Inv X pins σ H s) (h:SqT X.K H a xs):∃ its:List Value,Vals xs its/\IsTup s.heap a its.toArray/\xs.length<=sizeLine:=by
 rcases h with h | ⟨o,its,n,hk,hc,hs,hz,r⟩
 ·obtain ⟨⟨z,_⟩,its,r,p⟩:=h.ok I.hok
  exact ⟨its,r,p,z⟩
 ·refine ⟨its.toList,r,⟨o,I.kIn a o hk,hc.1,n,by simpa using hs⟩,?_⟩
  have e:=r.length
  simp only [bN] at e
  omega
theorem Inv.list_inj (I:Inv X pins σ H s) (h:SqL X.K H a xs) (h':SqL X.K H a ys):xs=ys:=by
 obtain ⟨its,r,⟨o,n,e,_,_,d⟩,_⟩:=I.list h
 obtain ⟨its',r',⟨o',n',e',_,_,d'⟩,_⟩:=I.list h'
 rw [e] at e'; cases e'
 rw [d] at d'
 injection d' with d1 _
 have:its=its':=by simpa using congrArg Array.toList d1
 subst this
 exact r.inj r'
theorem Inv.tuple_inj (I:Inv X pins σ H s) (h:SqT X.K H a xs) (h':SqT X.K H a ys):xs=ys:=by
 obtain ⟨its,r,⟨o,e,_,n,d⟩,_⟩:=I.tuple h
 obtain ⟨its',r',⟨o',e',_,n',d'⟩,_⟩:=I.tuple h'
 rw [e] at e'; cases e'
 rw [d] at d'
 injection d' with d1 _
 have:its=its':=by simpa using congrArg Array.toList d1
 subst this
 exact r.inj r'
end
variable {te:TE} {tc:TT}
section
variable {st:Stmt} {rest:List Stmt} {t u:TS}
def qfM:TS:=fun D σ H=>D.nx σ H
def qho (t u:TS):TS:=fun D σ H=>t { D with nx:=u D } σ H
theorem qbM:PSs X [] qfM:=⟨fun _ _ σ H _ I h=>wpAny_execs_nil ⟨σ,H,I,h⟩⟩
theorem Gd (h1:PS X st t) (h2:PSs X rest u):PSs X (st::rest) (qho t u):=by
 refine ⟨?_⟩
 intro pins s σ H D I h
 refine wpAny_execs_cons (thn (h1 pins s σ H { D with nx:=u D } I h) fun f s1 q=>?_)
 cases f with
 | next=>
  obtain ⟨σ',H',I',q⟩:=q
  exact h2 pins s1 σ' H' D I' q
 | ret v=>exact q
 | brk=>exact q
 | cont=>exact q
theorem qbN (h1:PS X st t):PSs X [st] t:=by
 refine ⟨?_⟩
 intro pins s σ H D I h
 refine wpAny_execs_cons (thn (h1 pins s σ H D I h) fun f s1 q=>?_)
 cases f with
 | next=>exact wpAny_execs_nil q
 | ret v=>exact q
 | brk=>exact q
 | cont=>exact q
theorem Inv.quiet (I:Inv X pins σ H s):interactive X.env=false:=by simp [interactive,I.ok.kind]
def qfN (te:TE):TS:=fun D σ H=>te σ H fun _ H1=>D.nx σ H1
theorem qbO (he:PE X e te) (hs:swapsWith e none pos.line X.env=pure false:=by rfl):PS X (.Expr e pos) (qfN te):=by
 refine ⟨?_⟩
 intro pins s σ H D I h
 exact wpAny_Expr_any (thn (he pins s σ H _ I h) fun v s1 ⟨x,H1,I1,r1,q1⟩=>⟨σ,H1,I1,q1⟩) I.quiet hs
def qhp (te:TE):TS:=fun D σ H=>te σ H D.rt
theorem qdB (he:PE X e te):PS X (.Return (some e) pos) (qhp te):=by
 refine ⟨?_⟩
 intro pins s σ H D I h
 exact wpAny_Return_some (thn (he pins s σ H _ I h) fun v s1 ⟨x,H1,I1,r1,q1⟩=>⟨x,σ,H1,I1,r1,q1⟩)
def qhq (c:TT) (t u:TS):TS:=fun D σ H=>c σ H fun b H1=>if b=true then t D σ H1 else u D σ H1
theorem qfO {a b:List Stmt} (hc:PT X c tc) (ha:PSs X a t) (hb:PSs X b u):PS X (.If c a b pos) (qhq tc t u):=by
 refine ⟨?_⟩
 intro pins s σ H D I h
 refine wpAny_If (thn (hc pins s σ H _ I h) fun d s1 ⟨H1,I1,q1⟩=>?_)
 cases d with
 | true=>exact ha pins s1 σ H1 D I1 q1
 | false=>exact hb pins s1 σ H1 D I1 q1
end
abbrev TG:=V->St->Hp->(St->Hp->Prop)->Prop
abbrev TGs:=List V->St->Hp->(St->Hp->Prop)->Prop
structure PG (X:Cx) (target:Expr) (t:TG):Prop where
 run:∀ (pins:List (Addr×Obj)) (s:Shared) (σ:St) (H:Hp) (v:V) (u:Value) (Q:St->Hp->Prop),Inv X pins σ H s->RelV v u->t v σ H Q ->
  wpAny (model X.prog X.w) X.A (assign target X.env u) (fun _ s'=>∃ σ' H',Inv X pins σ' H' s'/\Q σ' H') X.xe s
instance {X:Cx} {target:Expr} {t:TG}:CoeFun (PG X target t) (fun _=>∀ (pins:List (Addr×Obj)) (s:Shared) (σ:St) (H:Hp) (v:V) (u:Value) (Q:St->Hp->Prop),Inv X pins σ H s->RelV v u->t v σ H Q ->
  wpAny (model X.prog X.w) X.A (assign target X.env u) (fun _ s'=>∃ σ' H',Inv X pins σ' H' s'/\Q σ' H') X.xe s):=⟨fun h=>h.run⟩
structure PGs (X:Cx) (ts:List Expr) (t:TGs):Prop where
 run:∀ (pins:List (Addr×Obj)) (s:Shared) (σ:St) (H:Hp) (vs:List V) (us:List Value) (Q:St->Hp->Prop),Inv X pins σ H s->Vals vs us->t vs σ H Q ->
  wpAny (model X.prog X.w) X.A (assignInOrder ((assignEach ts X.env).map (·.2)) us) (fun _ s'=>∃ σ' H',Inv X pins σ' H' s'/\Q σ' H') X.xe s
instance {X:Cx} {ts:List Expr} {t:TGs}:CoeFun (PGs X ts t) (fun _=>∀ (pins:List (Addr×Obj)) (s:Shared) (σ:St) (H:Hp) (vs:List V) (us:List Value) (Q:St->Hp->Prop),Inv X pins σ H s->Vals vs us->t vs σ H Q ->
  wpAny (model X.prog X.w) X.A (assignInOrder ((assignEach ts X.env).map (·.2)) us) (fun _ s'=>∃ σ' H',Inv X pins σ' H' s'/\Q σ' H') X.xe s):=⟨fun h=>h.run⟩
abbrev qfP:=V->V->V->Hp->(Hp->Prop)->Prop
def qgM (X:Cx) (t:qfP):Prop:=
 ∀ (pins:List (Addr×Obj)) (s:Shared) (σ:St) (H:Hp) (o i v:V) (ov iv u:Value) (Q:Hp->Prop),Inv X pins σ H s->RelV o ov->RelV i iv->RelV v u->t o i v H Q ->
  wpAny (model X.prog X.w) X.A (setItem ov iv u) (fun _ s'=>∃ H',Inv X pins σ H' s'/\Q H') X.xe s
variable {es:List Expr} {tg:Expr}
section
def qdC (i:Nat):TG:=fun v σ H Q=>Q (σ.set i (some v)) H
theorem qbP (hN:X.N.Nodup) (hi:X.N[i]?=some x) (hx:Loc X.env.scope x) (hf:X.fn x=true\/X.env.scope.names.lookup x=some .local:=by first | exact .inl rfl | exact .inr rfl | assumption):PG X (.Name x pos) (qdC i):=by
 refine ⟨?_⟩
 intro pins s σ H v u Q I r h
 exact wpAny_assign_Name (VV I hN hi hx r (fun s' I'=>⟨_,H,I',h⟩) hf)
def qhr:TGs:=fun vs σ H Q=>vs=[]/\Q σ H
def qfQ (t:TG) (u:TGs):TGs:=fun vs σ H Q=>∃ v r,vs=v::r/\t v σ H fun σ' H'=>u r σ' H' Q
theorem qbQ:PGs X [] qhr:=by
 refine ⟨?_⟩
 intro pins s σ H vs us Q I r h
 obtain ⟨e,h⟩:=h
 subst e
 cases r
 exact assignInOrder_nil ⟨σ,H,I,h⟩
theorem Ge {t:TG} {u:TGs} (h1:PG X e t) (h2:PGs X es u)
  (hs:(assignEach (e::es) X.env).map (·.2)=assign e X.env::(assignEach es X.env).map (·.2):=by rfl):PGs X (e::es) (qfQ t u):=by
 refine ⟨?_⟩
 intro pins s σ H vs us Q I r h
 obtain ⟨v,vr,e1,h⟩:=h
 subst e1
 cases r with
 | cons r rr=>
  rw [hs]
  refine assignInOrder_cons (thn (h1 pins s σ H _ _ _ I r h) fun _ s1 ⟨σ1,H1,I1,q1⟩=>?_)
  exact h2 pins s1 σ1 H1 _ _ Q I1 rr q1
def qhs (K:Frag) (n:Nat) (t:TGs):TG:=fun v σ H Q=>∃ a xs,v=.ref a/\SqT K H a xs/\xs.length=n/\t xs σ H Q
theorem qdD {k:Nat} {t:TGs} {n:Nat} (hc:X.calm=true) (h:PGs X es t)
  (hn:(assignEach es X.env).length=n:=by rfl) (hst:(assignEach es X.env).findIdx? (·.1)=none:=by rfl):PG X (.Tuple es k pos) (qhs X.K n t):=by
 refine ⟨?_⟩
 intro pins s σ H v u Q I r hw
 obtain ⟨a,xs,e1,hq,hl,hw⟩:=hw
 subst e1
 cases r
 obtain ⟨its,rv,ht,hz⟩:=I.tuple hq
 refine assign_Tuple_tuple (I.ok.hd hc) ht (by simp [hn,<-hl,rv.length]) hst fun h' hx=>?_
 have I1:Inv X pins σ H { s with heap:=h' }:=I.kept (t':=s.toks) fun b o e=>hx b o (aE (ay e)) e
 exact h pins _ σ H xs _ Q I1 (by simpa using rv) hw
def qht (to ti:TE) (t:qfP):TG:=fun v σ H Q=>to σ H fun o H1=>ti σ H1 fun i H2=>t o i v H2 fun H3=>Q σ H3
theorem qdE {o i:Expr} {to ti:TE} {t:qfP} (ho:PE X o to) (hi:PE X i ti) (hs:qgM X t)
  (ha:∀ v,assign (.Subscript o i pos) X.env v=(do
   let ov <-holding [v] (eval o X.env)
   let iv <-holding [v,ov] (eval i X.env)
   standAt pos
   holding [v,ov,iv] (setItem ov iv v)
   release [v,ov,iv] []):=by intro _; rfl):PG X (.Subscript o i pos) (qht to ti t):=by
 refine ⟨?_⟩
 intro pins s σ H v u Q I r h
 rw [ha]
 refine wpAny_bind (wpAny_holding (thn (ho pins s σ H _ I h) fun ov s1 ⟨x,H1,I1,r1,q1⟩=>?_))
 refine wpAny_bind (wpAny_holding (thn (hi pins s1 σ H1 _ I1 q1) fun iv s2 ⟨y,H2,I2,r2,q2⟩=>?_))
 refine wpAny_bind (wpAny_standAt (wpAny_bind (wpAny_holding (thn (hs pins s2 σ H2 x y v ov iv u _ I2 r1 r2 r q2) fun _ s3 ⟨H3,I3,q3⟩=>?_))))
 exact wpAny_release ⟨σ,H3,I3,q3⟩
def qgN (te:TE) (g:TG):TS:=fun D σ H=>te σ H fun x H1=>g x σ H1 D.nx
theorem qaX {g:TG} (he:PE X e te) (hg:PG X tg g) (hs:swapsWithSole [tg] e pos.line X.env=pure false:=by rfl) (hw:swappedStores [tg] e X.env=pure none:=by rfl)
  (h1:(assignEach [tg] X.env).map (·.2)=[assign tg X.env]:=by rfl):PS X (.Assign [tg] e pos) (qgN te g):=by
 refine ⟨?_⟩
 intro pins s σ H D I h
 refine wpAny_Assign_stores (thn (he pins s σ H _ I h) fun v s1 ⟨x,H1,I1,r1,q1⟩=>?_) hs hw
 rw [h1]
 exact thn (hg pins s1 σ H1 x v _ I1 r1 q1) fun _ s2 q=>q
theorem qaY {pos':Pos} (hN:X.N.Nodup) (hi:X.N[i]?=some x) (hx:Loc X.env.scope x) (he:PE X e te) (hs:swapsWith e (some (.Name x pos')) pos.line X.env=pure false:=by rfl) (hf:X.fn x=true\/X.env.scope.names.lookup x=some .local:=by first | exact .inl rfl | exact .inr rfl | assumption) :
  PS X (.Assign [.Name x pos'] e pos) (qgN te (qdC i)):=by
 refine ⟨?_⟩
 intro pins s σ H D I h
 refine wpAny_Assign_Name (thn (he pins s σ H _ I h) fun v s1 ⟨y,H1,I1,r1,q1⟩=>?_) hs
 exact VV I1 hN hi hx r1 (fun s2 I2=>⟨_,H1,I2,q1⟩) hf
end
variable {tb:TS} {body:List Stmt}
section
def qdF (c:TT) (tb:TS):TS:=fun D σ H=>∃ W:Nat->St->Hp->Prop,(∃ m,W m σ H)/\∀ m σ H,W m σ H ->
 c σ H fun b H1=>if b=true then ∃ N:St->Hp->Prop,(∀ σ' H',N σ' H'->∃ m',m' < m/\W m' σ' H')/\tb { D with nx:=N,ct:=N,bk:=D.nx } σ H1 else D.nx σ H1
theorem Gf (hp:PassesOwn (model X.prog X.w) X.A X.env X.xe) (hc:PT X c tc) (hb:PSs X body tb):PS X (.While c body [] pos) (qdF tc tb):=by
 refine ⟨?_⟩
 intro pins s σ H D I h
 obtain ⟨W,⟨m0,w0⟩,turn⟩:=h
 refine wpAny_While (codeAny_whileLoop (fun n s'=>∃ σ' H',Inv X pins σ' H' s'/\W n σ' H') ?_ m0 ⟨σ,H,I,w0⟩)
 rintro n s1 ⟨σ1,H1,I1,w1⟩
 refine wpAny_passesOwn hp (thn (hc pins s1 σ1 H1 _ I1 (turn n σ1 H1 w1)) fun b s2 ⟨H2,I2,q2⟩=>?_)
 cases b with
 | true=>
  obtain ⟨N,hN,q2⟩:=q2
  rw [if_pos rfl]
  refine wpAny_passesOwn hp (thn (hb pins s2 σ1 H2 _ I2 q2) fun f s3 q3=>?_)
  cases f with
  | next=>
   obtain ⟨σ3,H3,I3,n3⟩:=q3
   obtain ⟨m',hm,w3⟩:=hN σ3 H3 n3
   exact ⟨m',hm,σ3,H3,I3,w3⟩
  | cont=>
   obtain ⟨σ3,H3,I3,n3⟩:=q3
   obtain ⟨m',hm,w3⟩:=hN σ3 H3 n3
   exact ⟨m',hm,σ3,H3,I3,w3⟩
  | brk=>exact q3
  | ret v=>exact q3
 | false=>
  rw [if_neg bf]
  exact wpAny_execs_nil ⟨σ1,H2,I2,q2⟩
end
structure It where
 go:Nat->Hp->Prop
 yld:Nat->Hp->V->Hp->Prop
 stop:Nat->Hp->Prop
def KA (X:Cx) (pins:List (Addr×Obj)) (H:Hp) (b:Addr):Prop:=
 H b=none/\b≠X.env.locals/\b∉X.fs/\(b∈X.ex\/X.s₀.heap.objs.size<=b)/\(∀ x c,X.env.cells.lookup x=some c->c≠b)/\∀ p∈X.pn++pins,p.1≠b
theorem Inv.fpOk (I:Inv X pins σ H s) (hb:s.heap.objs.size<=b) (hn:H' b=none):KA X pins H' b:=by
 refine ⟨hn,c7 (aI I.lt hb),I.nofs hb,.inr (bc I.sz hb),fun x c e z=>?_,fun p hp z=>?_⟩
 ·obtain ⟨v,q⟩:=I.cell x c e
  exact absurd (aI q.lt (by rw [z]; exact hb)) (bO _)
 ·exact absurd (aI (ay (I.pin p hp).1) (by rw [z]; exact hb)) (bO _)
structure Turn (P:Program) (w:World) (K:Frag) (tg:Expr) (J:It) (fp:List Addr) (it:Addr) (tn:Nat->Heap->Prop):Prop where
 mem:it∈fp
 obj:∀ i h,tn i h->∀ b∈fp,∃ o,h.get? b=some o/\∀ v,o.data≠.cell v
 keep:∀ i h h',tn i h->(∀ b∈fp,∀ o,h.get? b=some o->h'.get? b=some o)->tn i h'
 item:∀ (X:Cx),X.prog=P->X.w=w->X.K=K->X.calm=true->∀ (i:Nat) (pins:List (Addr×Obj)) (s:Shared) (σ:St) (H:Hp) (E:Value->Shared->Prop),Inv X pins σ H s->(∀ b∈fp,KA X pins H b)->tn i s.heap->J.go i H ->
  wpAny (model P w) X.A (pyNext (.ref it)) (fun r s1=>∃ u,r=some u /\
   wpAny (model P w) X.A (letOwnedTupleGo tg (.ref it) u) (fun _ s2=>∃ x H',Inv X pins σ H' s2/\RelV x u/\J.yld i H x H'/\tn (i+1) s2.heap/\∀ b∈fp,H' b=none) E s1) E s
 done:∀ (X:Cx),X.prog=P->X.w=w->X.K=K->X.calm=true->∀ (i:Nat) (pins:List (Addr×Obj)) (s:Shared) (σ:St) (H:Hp) (E:Value->Shared->Prop),Inv X pins σ H s->(∀ b∈fp,KA X pins H b)->tn i s.heap->J.stop i H ->
  wpAny (model P w) X.A (pyNext (.ref it)) (fun r s1=>r=none/\Inv X pins σ H s1) E s
 self:∀ (A:Around) (i:Nat) (s:Shared) (Q:Value->Shared->Prop) (E:Value->Shared->Prop),tn i s.heap->Q (.ref it) s->wpAny (model P w) A (pyIter (.ref it)) Q E s
abbrev TI:=St->Hp->(It->Hp->Prop)->Prop
def PIE (X:Cx) (pins:List (Addr×Obj)) (σ:St) (tg:Expr) (R:It->Hp->Prop) (itv:Value) (s2:Shared):Prop:=
 ∃ (it:Addr) (fp:List Addr) (tn:Nat->Heap->Prop) (J:It) (H':Hp),itv=.ref it/\Inv X pins σ H' s2/\Turn X.prog X.w X.K tg J fp it tn/\tn 0 s2.heap/\(∀ b∈fp,KA X pins H' b)/\R J H'
structure PI (X:Cx) (tg iter:Expr) (wi:TI):Prop where
 run:∀ (pins:List (Addr×Obj)) (s:Shared) (σ:St) (H:Hp) (R:It->Hp->Prop),Inv X pins σ H s->wi σ H R ->
  wpAny (model X.prog X.w) X.A (eval iter X.env) (fun v s1=>wpAny (model X.prog X.w) X.A (pyIter v) (PIE X pins σ tg R) X.xe s1) X.xe s
instance {X:Cx} {tg iter:Expr} {wi:TI}:CoeFun (PI X tg iter wi) (fun _=>∀ (pins:List (Addr×Obj)) (s:Shared) (σ:St) (H:Hp) (R:It->Hp->Prop),Inv X pins σ H s->wi σ H R ->
  wpAny (model X.prog X.w) X.A (eval iter X.env) (fun v s1=>wpAny (model X.prog X.w) X.A (pyIter v) (PIE X pins σ tg R) X.xe s1) X.xe s):=⟨fun h=>h.run⟩
theorem Gg {M:Model} {A:Around} {E:Value->Shared->Prop} {tg:Expr} {u:Value} {o:Obj} {n:String} {vs:Array Value} {Q:Unit->Shared->Prop} (ho:s.heap.get? it=some o) (hc:o.cls=.type n) (hd:o.data=.fields vs)
    (hn:["enumerate", "zip", "dict_itemiterator", "dict_reverseitemiterator", "odict_iterator", "itertools.zip_longest", "itertools.pairwise"].contains n=false) (hQ:Q () s):wpAny M A (letOwnedTupleGo tg (.ref it) u) Q E s:=by
  unfold letOwnedTupleGo
  cases tg <;> first
    | exact wpAny_pure hQ
    | (cases u <;> first
        | exact wpAny_pure hQ
        | (refine wpAny_bind (wpAny_load ho ?_)
           rw [hc,hd]
           show wpAny M A (if (["enumerate", "zip", "dict_itemiterator", "dict_reverseitemiterator", "odict_iterator", "itertools.zip_longest", "itertools.pairwise"].contains n&&vs[0]? == some (rawInt _))=true then _ else _) Q E s
           rw [if_neg (by intro h; rw [hn,Bool.false_and] at h; cases h)]
           exact wpAny_pure hQ))
noncomputable def Itl (K:Frag) (a:Addr):It:=
 ⟨fun i H=>∃ xs x,SqL K H a xs/\xs[i]?=some x,fun i H x H'=>H'=H/\∀ xs,SqL K H a xs->xs[i]?=some x,fun i H=>∃ xs,SqL K H a xs/\xs.length<=i⟩
noncomputable def Itt (K:Frag) (a:Addr):It:=
 ⟨fun i H=>∃ xs x,SqT K H a xs/\xs[i]?=some x,fun i H x H'=>H'=H/\∀ xs,SqT K H a xs->xs[i]?=some x,fun i H=>∃ xs,SqT K H a xs/\xs.length<=i⟩
noncomputable def Itr (lo:Int) (n:Nat):It:=⟨fun i _=>i < n,fun i H x H'=>H'=H/\x=.int (lo+i),fun i _=>n<=i⟩
theorem Yn (a it:Addr):Turn P w K tg (Itl K a) [it] it (fun i h=>h.IsListIter it a i) where
 mem:=by simp
 obj:=fun i h st b hb=>by
  have e:b=it:=by simpa using hb
  subst e
  obtain ⟨o,e,c,d⟩:=st
  exact ⟨o,e,fun v z=>by rw [d] at z; cases z⟩
 keep:=fun i h h' st k=>st.at fun o e=>k it (by simp) o e
 item:=by
  intro X hP hw hK hc i pins s σ H E I hf st hg
  subst hP hw hK
  obtain ⟨xs,x,hq,hx⟩:=hg
  obtain ⟨its,rv,p,hz⟩:=I.list hq
  obtain ⟨u,hu,ru⟩:=rv.get hx
  obtain ⟨f0,f1,f2,f3,f4,f5⟩:=hf it (by simp)
  refine wpAny_pyNext_list_item st p.isList (x:=u) (by simpa using hu) fun h' st' sb=>?_
  have I1:Inv X pins σ H { s with heap:=h' }:=I.turned (t':=s.toks) (fun b o hb e=>(sb.2 b hb).trans e) f0 f1 f3 f4 f5
  obtain ⟨o,e,c,d⟩:=id st'
  exact ⟨u,rfl,Gg (s:={ s with heap:=h' }) e c d (by decide) ⟨x,H,I1,ru,⟨rfl,fun ys hy=>by rw [I.list_inj hy hq]; exact hx⟩,st',fun b hb=>(hf b hb).1⟩⟩
 done:=by
  intro X hP hw hK hc i pins s σ H E I hf st hg
  subst hP hw hK
  obtain ⟨xs,hq,hx⟩:=hg
  obtain ⟨its,rv,p,hz⟩:=I.list hq
  obtain ⟨f0,f1,f2,f3,f4,f5⟩:=hf it (by simp)
  have hl:=rv.length
  exact wpAny_pyNext_list_end (I.ok.hd hc) st p.isList (by simp; omega) fun h' eb=>⟨rfl,I.turned (t':=s.toks) (fun b o hb e=>eb b o hb e) f0 f1 f3 f4 f5⟩
 self:=fun _ _ _ _ _ st h=>wpAny_pyIter_listiter st h
theorem Uu (a it:Addr):Turn P w K tg (Itt K a) [it] it (fun i h=>h.IsTupleIter it a i) where
 mem:=by simp
 obj:=fun i h st b hb=>by
  have e:b=it:=by simpa using hb
  subst e
  obtain ⟨o,e,c,d⟩:=st
  exact ⟨o,e,fun v z=>by rw [d] at z; cases z⟩
 keep:=fun i h h' st k=>st.at fun o e=>k it (by simp) o e
 item:=by
  intro X hP hw hK hc i pins s σ H E I hf st hg
  subst hP hw hK
  obtain ⟨xs,x,hq,hx⟩:=hg
  obtain ⟨its,rv,p,hz⟩:=I.tuple hq
  obtain ⟨u,hu,ru⟩:=rv.get hx
  obtain ⟨f0,f1,f2,f3,f4,f5⟩:=hf it (by simp)
  refine wpAny_pyNext_tuple_item st (show s.heap.IsTuple a its.toArray from p) (x:=u) (by simpa using hu) fun h' st' sb=>?_
  have I1:Inv X pins σ H { s with heap:=h' }:=I.turned (t':=s.toks) (fun b o hb e=>(sb.2 b hb).trans e) f0 f1 f3 f4 f5
  obtain ⟨o,e,c,d⟩:=id st'
  exact ⟨u,rfl,Gg (s:={ s with heap:=h' }) e c d (by decide) ⟨x,H,I1,ru,⟨rfl,fun ys hy=>by rw [I.tuple_inj hy hq]; exact hx⟩,st',fun b hb=>(hf b hb).1⟩⟩
 done:=by
  intro X hP hw hK hc i pins s σ H E I hf st hg
  subst hP hw hK
  obtain ⟨xs,hq,hx⟩:=hg
  obtain ⟨its,rv,p,hz⟩:=I.tuple hq
  obtain ⟨f0,f1,f2,f3,f4,f5⟩:=hf it (by simp)
  have hl:=rv.length
  exact wpAny_pyNext_tuple_end (I.ok.hd hc) st (show s.heap.IsTuple a its.toArray from p) (by simp; omega) fun h' eb=>⟨rfl,I.turned (t':=s.toks) (fun b o hb e=>eb b o hb e) f0 f1 f3 f4 f5⟩
 self:=fun _ _ _ _ _ st h=>wpAny_pyIter_tupleiter st h
theorem Uv (it:Addr) (lo:Int) (n:Nat):Turn P w K tg (Itr lo n) [it] it (fun i h=>IsRangeIter h it (lo+(i:Nat) * 1) ((n:Int) - (i:Nat)) 1) where
 mem:=by simp
 obj:=fun i h st b hb=>by
  have e:b=it:=by simpa using hb
  subst e
  exact ⟨_,st,fun v z=>by
   have z':Data.fields _=Data.cell v:=z
   cases z'⟩
 keep:=fun i h h' st k=>k it (by simp) _ st
 item:=by
  intro X hP hw hK hc i pins s σ H E I hf st hg
  subst hP hw hK
  obtain ⟨f0,f1,f2,f3,f4,f5⟩:=hf it (by simp)
  have W:=Walks.range (prog:=X.prog) (w:=X.w) (I.ok.hd hc) it lo 1 n
  refine W.item i s _ _ hg st fun v h' tk hv st' kk=>?_
  obtain ⟨t,rfl⟩:=hv
  have I1:Inv X pins σ H { s with heap:=h',toks:=tk }:=I.turned (fun b o hb e=>kk b o (by simpa using hb) e) f0 f1 f3 f4 f5
  refine ⟨_,rfl,Gg (s:={ s with heap:=h',toks:=tk }) (n := "range_iterator") st' rfl rfl (by decide) ⟨.int (lo+i),H,I1,⟨t,?_⟩,⟨rfl,rfl⟩,st',fun b hb=>(hf b hb).1⟩⟩
  rw [Int.mul_one]
 done:=by
  intro X hP hw hK hc i pins s σ H E I hf st hg
  subst hP hw hK
  obtain ⟨f0,f1,f2,f3,f4,f5⟩:=hf it (by simp)
  exact wpAny_pyNext_range_end (I.ok.hd hc) st (by have:n<=i:=hg; omega) fun h' eb=>⟨rfl,I.turned (t':=s.toks) (fun b o hb e=>eb b o hb e) f0 f1 f3 f4 f5⟩
 self:=fun _ _ _ _ _ st h=>wpAny_pyIter_rangeiter st h
variable {p:Pos} {fp:List Addr}
section
theorem VW {R:It->Hp->Prop} {E:Value->Shared->Prop} {lo hi:Int} {t u v:Tok} {tk:Nat} (I:Inv X pins σ H s) (h1:-(2 ^ 62)<=lo) (h2:lo < 2 ^ 62) (h3:-(2 ^ 62)<=hi) (h4:hi < 2 ^ 62)
  (q:R (Itr lo (hi - lo).toNat) H):wpAny (model X.prog X.w) X.A (pyIter (.ref s.heap.objs.size)) (PIE X pins σ tg R) E { s with heap:=s.heap.push { cls:=.type "range",data:=.fields #[.int lo t,.int hi u,.int 1 v] },toks:=tk }:=by
 refine wpAny_pyIter_range (IsRange.new ..) (small_one h1 h2 h3 h4) ?_
 have I1:Inv X pins σ H { s with heap:=s.heap.push { cls:=.type "range",data:=.fields #[.int lo t,.int hi u,.int 1 v] },toks:=tk }:=I.kept fun b o e=>ae _ e
 refine ⟨(s.heap.push { cls:=.type "range",data:=.fields #[.int lo t,.int hi u,.int 1 v] }).objs.size,[(s.heap.push { cls:=.type "range",data:=.fields #[.int lo t,.int hi u,.int 1 v] }).objs.size],_,_,H,rfl,
  I1.kept (t':=tk) fun b o e=>ae _ e,Uv _ lo (hi - lo).toNat,?_,fun b hb=>?_,q⟩
 ·have e1:lo+((0:Nat):Int) * 1=lo:=by simp
  have e2:(((hi - lo).toNat:Nat):Int) - ((0:Nat):Int)=Builtin.Range.rangeSize lo hi 1:=by rw [rangeSize_one]; split <;> omega
  show IsRangeIter _ _ (lo+((0:Nat):Int) * 1) ((((hi - lo).toNat:Nat):Int) - ((0:Nat):Int)) 1
  rw [e1,e2]
  exact ao _ rfl
 ·have e:b=(s.heap.push { cls:=.type "range",data:=.fields #[.int lo t,.int hi u,.int 1 v] }).objs.size:=by simpa using hb
  subst e
  exact I1.fpOk (ax _) (I1.hok.fresh (ax _))
def qfR (ta:TA):TI:=fun σ H R=>ta σ H fun vs H1=>∃ j:Int,vs=[.int j]/\-(2 ^ 62)<=j/\j < 2 ^ 62/\R (Itr 0 j.toNat) H1
def qfS (ta:TA):TI:=fun σ H R=>ta σ H fun vs H1=>∃ i j:Int,vs=[.int i,.int j]/\(-(2 ^ 62)<=i/\i < 2 ^ 62/\-(2 ^ 62)<=j/\j < 2 ^ 62)/\R (Itr i (j - i).toNat) H1
theorem Yo {a:Expr} {ta:TA} (hg:Gl X "range") (hm:X.mg "range"=none) (ha:PA X [a] ta) (hs:starEach [a] X.env=[(false,eval a X.env)]:=by rfl):PI X tg (.Call (.Name "range" p) [a] [] pos) (qfR ta):=by
 refine ⟨?_⟩
 intro pins s σ H R I h
 refine Call_ (uX I hg hm boot_range (bh (thn (ha pos pins s σ H _ I h) fun us s1 ⟨vs,H1,I1,r1,q1⟩=>?_) hs rfl))
 obtain ⟨j,e,q1,q2,q⟩:=q1
 subst e
 cases r1 with
 | cons r rr=>
  cases rr
  obtain ⟨t,rfl⟩:=r
  exact call_range_1 (VW I1 (by omega) (by omega) q1 q2 (by simpa using q))
theorem Yp {a b:Expr} {ta:TA} {p pos:Pos} (hg:Gl X "range") (hm:X.mg "range"=none) (ha:PA X [a,b] ta) (hs:starEach [a,b] X.env=[(false,eval a X.env),(false,eval b X.env)]:=by rfl) (hs2:starEach [b] X.env=[(false,eval b X.env)]:=by rfl) :
  PI X tg (.Call (.Name "range" p) [a,b] [] pos) (qfS ta):=by
 refine ⟨?_⟩
 intro pins s σ H R I h
 refine Call_ (uX I hg hm boot_range (bh (thn (ha pos pins s σ H _ I h) fun us s1 ⟨vs,H1,I1,r1,q1⟩=>?_) (by rw [hs,hs2]) (by rw [hs2]; rfl)))
 obtain ⟨i,j,e,⟨q1,q2,q3,q4⟩,q⟩:=q1
 subst e
 cases r1 with
 | cons r rr=>
  cases rr with
  | cons r' rr=>
   cases rr
   obtain ⟨t,rfl⟩:=r
   obtain ⟨t',rfl⟩:=r'
   exact call_range_2 (VW I1 q1 q2 q3 q4 q)
def qhu (wi:TI) (g:TG) (tb:TS):TS:=fun D σ H=>wi σ H fun J H1=>∃ W:Nat->Nat->St->Hp->Prop,(∃ m,W 0 m σ H1)/\∀ i m σ H,W i m σ H ->
 (J.stop i H/\D.nx σ H)\/(J.go i H/\∃ N:St->Hp->Prop,(∀ σ' H',N σ' H'->∃ m',m' < m/\W (i+1) m' σ' H')/\∀ x H',J.yld i H x H'->g x σ H' fun σ2 H2=>tb { D with nx:=N,ct:=N,bk:=D.nx } σ2 H2)
noncomputable def Ji (fp:List Addr) (h:Heap):List (Addr×Obj):=fp.filterMap fun b=>(h.get? b).map fun o=>(b,o)
theorem ub {o:Obj} (hb:b∈fp) (e:h.get? b=some o):(b,o)∈Ji fp h:=dh.mpr ⟨b,hb,by rw [e]; rfl⟩
theorem Yq {p:Addr×Obj} (hp:p∈Ji fp h):p.1∈fp/\h.get? p.1=some p.2:=by
 obtain ⟨b,hb,e⟩:=dh.mp hp
 cases q:h.get? b with
 | none=>rw [q] at e; cases e
 | some o=>
  rw [q] at e
  have e':(b,o)=p:=aT.inj e
  subst e'
  exact ⟨hb,q⟩
theorem Inv.pinned (I:Inv X pins σ H s) (hf:∀ b∈fp,KA X pins H b) (ho:∀ b∈fp,∃ o,s.heap.get? b=some o/\∀ v,o.data≠.cell v):Inv X (pins++Ji fp s.heap) σ H s:=
 I.pins_of fun p hp=>(ak.mp hp).elim (fun z=>I.pin p (aM _ z)) fun z=>by
  obtain ⟨hb,e⟩:=Yq z
  obtain ⟨f0,f1,f2,_⟩:=hf p.1 hb
  obtain ⟨o,e',d⟩:=ho p.1 hb
  rw [e] at e'; cases e'
  exact ⟨e,f0,f1,f2,d⟩
theorem Inv.unpinned {pl:List (Addr×Obj)} (I:Inv X (pins++pl) σ H s):Inv X pins σ H s:=I.pins_of fun p hp=>I.pin p (aM _ (dW _ hp))
theorem qdG {iter:Expr} {wi:TI} {g:TG} {pos:Pos} (hp:PassesOwn (model X.prog X.w) X.A X.env X.xe) (hc:X.calm=true) (hi:PI X tg iter wi) (hg:PG X tg g) (hb:PSs X body tb)
  (hs:∀ x,foldedSetIterable iter X.env x=pure x:=by intro _; rfl):PS X (.For tg iter body [] pos) (qhu wi g tb):=by
 refine ⟨?_⟩
 intro pins s σ H D I h
 refine wpAny_For (thn (hi pins s σ H _ I h) fun v s1 h1=>thn h1 fun itv s2 h2=>?_) hs
 obtain ⟨it,fp,tn,J,H2,e,I2,T,st2,f2,W,⟨m0,w0⟩,turn⟩:=h2
 subst e
 have stat:∀ {H':Hp},(∀ b∈fp,H' b=none)->∀ b∈fp,KA X pins H' b:=fun hn b hb=>⟨hn b hb,(f2 b hb).2⟩
 refine codeAny_forLoop_any (fun n s'=>∃ i σ' H',Inv X pins σ' H' s'/\tn i s'.heap/\(∀ b∈fp,H' b=none)/\W i n σ' H') ?_ m0 ⟨0,σ,H2,I2,st2,fun b hb=>(f2 b hb).1,w0⟩
 rintro n s3 ⟨i,σ3,H3,I3,st3,fr3,w3⟩
 rcases turn i n σ3 H3 w3 with ⟨stop,qn⟩ | ⟨go,N,hN,step⟩
 ·refine wpAny_passesOwn hp (thn (T.done X rfl rfl rfl hc i pins s3 σ3 H3 X.xe I3 (stat fr3) st3 stop) fun r s4 ⟨hr,I4⟩=>?_)
  subst hr
  exact wpAny_execs_nil ⟨σ3,H3,I4,qn⟩
 ·refine wpAny_passesOwn hp (thn (T.item X rfl rfl rfl hc i pins s3 σ3 H3 X.xe I3 (stat fr3) st3 go) fun r s4 ⟨u,hr,h4⟩=>?_)
  subst hr
  refine wpAny_passesOwn hp (thn h4 fun _ s5 ⟨x,H5,I5,r5,y5,st5,fr5⟩=>?_)
  have I5':=I5.pinned (stat fr5) (T.obj _ _ st5)
  refine wpAny_passesOwn hp (thn (hg _ s5 σ3 H5 x u _ I5' r5 (step x H5 y5)) fun _ s6 ⟨σ6,H6,I6,q6⟩=>?_)
  refine wpAny_passesOwn hp (thn (hb _ s6 σ6 H6 _ I6 q6) fun f s7 q7=>?_)
  have again:∀ {σ7:St} {H7:Hp},Inv X (pins++Ji fp s5.heap) σ7 H7 s7->N σ7 H7->∃ m,m < n/\∃ i σ' H',Inv X pins σ' H' s7/\tn i s7.heap/\(∀ b∈fp,H' b=none)/\W i m σ' H':=fun {σ7 H7} I7 n7=>by
   obtain ⟨m',hm,w7⟩:=hN σ7 H7 n7
   refine ⟨m',hm,i+1,σ7,H7,I7.unpinned,T.keep _ _ _ st5 fun b hb o e=>(I7.pin (b,o) (aM _ (aM _ (ub hb e)))).1,fun b hb=>?_,w7⟩
   obtain ⟨o,e,d⟩:=T.obj _ _ st5 b hb
   exact (I7.pin (b,o) (aM _ (aM _ (ub hb e)))).2.1
  cases f with
  | next=>obtain ⟨σ7,H7,I7,n7⟩:=q7; exact again I7 n7
  | cont=>obtain ⟨σ7,H7,I7,n7⟩:=q7; exact again I7 n7
  | brk=>obtain ⟨σ7,H7,I7,q7⟩:=q7; exact ⟨σ7,H7,I7.unpinned,q7⟩
  | ret v=>obtain ⟨x7,σ7,H7,I7,r7,q7⟩:=q7; exact ⟨x7,σ7,H7,I7.unpinned,r7,q7⟩
end
abbrev R2:=V->V->Hp->VK->Prop
def OpR (X:Cx) (f:Value->Value->Sem Value) (r:R2):Prop:=
 ∀ (pins:List (Addr×Obj)) (s:Shared) (σ:St) (H:Hp) (x y:V) (v u:Value) (Q:VK),Inv X pins σ H s->RelV x v->RelV y u->r x y H Q ->
  wpAny (model X.prog X.w) X.A (f v u) (EP X pins σ Q) X.xe s
def UnR (X:Cx) (f:Value->Sem Value) (r:V->Hp->VK->Prop):Prop:=
 ∀ (pins:List (Addr×Obj)) (s:Shared) (σ:St) (H:Hp) (x:V) (v:Value) (Q:VK),Inv X pins σ H s->RelV x v->r x H Q ->
  wpAny (model X.prog X.w) X.A (f v) (EP X pins σ Q) X.xe s
def uw (X:Cx) (f:Value) (r:List V->Hp->VK->Prop):Prop:=
 ∀ (pins:List (Addr×Obj)) (s:Shared) (σ:St) (H:Hp) (xs:List V) (us:List Value) (Q:VK),Inv X pins σ H s->Vals xs us->r xs H Q ->
  wpAny (model X.prog X.w) X.A (call f us) (EP X pins σ Q) X.xe s
def qhv (X:Cx) (r:V->Hp->(Bool->Hp->Prop)->Prop):Prop:=
 ∀ (pins:List (Addr×Obj)) (s:Shared) (σ:St) (H:Hp) (x:V) (v:Value) (Q:Bool->Hp->Prop),Inv X pins σ H s->RelV x v->r x H Q ->
  wpAny (model X.prog X.w) X.A (truthy v) (TP X pins σ Q) X.xe s
def tOp (r:R2) (ta tb:TE):TE:=fun σ H Q=>ta σ H fun x H1=>tb σ H1 fun y H2=>r x y H2 Q
def tUn (r:V->Hp->VK->Prop) (ta:TE):TE:=fun σ H Q=>ta σ H fun x H1=>r x H1 Q
def rI (C:Int->Int->Prop) (g:Int->Int->V):R2:=fun x y H Q=>∃ i j,x=.int i/\y=.int j/\C i j/\Q (g i j) H
def rI0 (g:Int->Int->V):R2:=fun x y H Q=>∃ i j,x=.int i/\y=.int j/\Q (g i j) H
def rU (g:Int->V):V->Hp->VK->Prop:=fun x H Q=>∃ i,x=.int i/\Q (g i) H
variable {r:R2}
section
variable {a b:Expr} {tb tc:TE}
theorem qfT (ha:PE X a ta) (hb:PE X b tb) {R:V->V->Hp->Prop} (I:Inv X pins σ H s)
  (h:ta σ H fun x H1=>tb σ H1 fun y H2=>R x y H2) {Q:Value->Shared->Prop} {f:Value->Value->Sem Value}
  (hf:∀ v u s2 x y H2,Inv X pins σ H2 s2->RelV x v->RelV y u->R x y H2->wpAny (model X.prog X.w) X.A (f v u) Q X.xe s2) :
  wpAny (model X.prog X.w) X.A (eval a X.env) (fun v s₁=>wpAny (model X.prog X.w) X.A (eval b X.env) (fun u s₂=>wpAny (model X.prog X.w) X.A (f v u) Q X.xe s₂) X.xe s₁) X.xe s:=by
 refine thn (ha pins s σ H _ I h) fun v s1 ⟨x,H1,I1,r1,q1⟩=>?_
 refine thn (hb pins s1 σ H1 _ I1 q1) fun u s2 ⟨y,H2,I2,r2,q2⟩=>?_
 exact hf v u s2 x y H2 I2 r1 r2 q2
theorem qfU {op:Operator} (ho:OpR X (binaryOp op) r) (ha:PE X a ta) (hb:PE X b tb):PE X (.BinOp a op b pos) (tOp r ta tb):=by
 refine ⟨?_⟩
 intro pins s σ H Q I h
 exact wpAny_BinOp (qfT ha hb I h fun v u s2 x y H2 I2 rx ry q=>ho pins s2 σ H2 x y v u Q I2 rx ry q)
theorem qfV {op:UnaryOp} {r:V->Hp->VK->Prop} (ho:UnR X (unaryOp op) r) (ha:PE X a ta):PE X (.UnaryOp op a pos) (tUn r ta):=by
 refine ⟨?_⟩
 intro pins s σ H Q I h
 exact UnaryOp_ (thn (ha pins s σ H _ I h) fun v s1 ⟨x,H1,I1,r1,q1⟩=>ho pins s1 σ H1 x v Q I1 r1 q1)
theorem opI {f:Value->Value->Sem Value} {C:Int->Int->Prop} {g:Int->Int->Int}
  (rule:∀ (i j:Int) (t u:Tok) (s:Shared) (Q:Value->Shared->Prop) (E:Value->Shared->Prop),C i j->Q (.int (g i j) s.toks) { s with toks:=s.toks+1 }->wpAny (model X.prog X.w) X.A (f (.int i t) (.int j u)) Q E s) :
  OpR X f (rI C fun i j=>.int (g i j)):=by
 intro pins s σ H x y v u Q I rx ry h
 obtain ⟨i,j,rfl,rfl,hc,q⟩:=h
 obtain ⟨t,rfl⟩:=rx
 obtain ⟨t',rfl⟩:=ry
 exact rule i j t t' s _ _ hc ⟨.int (g i j),H,I.tok _,⟨_,rfl⟩,q⟩
theorem qgO {f:Value->Value->Sem Value} {g:Int->Int->Int}
  (rule:∀ (i j:Int) (t u:Tok) (s:Shared) (Q:Value->Shared->Prop) (E:Value->Shared->Prop),Q (.int (g i j) s.toks) { s with toks:=s.toks+1 }->wpAny (model X.prog X.w) X.A (f (.int i t) (.int j u)) Q E s) :
  OpR X f (rI0 fun i j=>.int (g i j)):=by
 intro pins s σ H x y v u Q I rx ry h
 obtain ⟨i,j,rfl,rfl,q⟩:=h
 obtain ⟨t,rfl⟩:=rx
 obtain ⟨t',rfl⟩:=ry
 exact rule i j t t' s _ _ ⟨.int (g i j),H,I.tok _,⟨_,rfl⟩,q⟩
theorem qfl {f:Value->Value->Sem Value} {g:Int->Int->Bool}
  (rule:∀ (i j:Int) (t u:Tok) (s:Shared) (Q:Value->Shared->Prop) (E:Value->Shared->Prop),Q (.bool (g i j)) s->wpAny (model X.prog X.w) X.A (f (.int i t) (.int j u)) Q E s) :
  OpR X f (rI0 fun i j=>.bl (g i j)):=by
 intro pins s σ H x y v u Q I rx ry h
 obtain ⟨i,j,rfl,rfl,q⟩:=h
 obtain ⟨t,rfl⟩:=rx
 obtain ⟨t',rfl⟩:=ry
 exact rule i j t t' s _ _ ⟨.bl (g i j),H,I,rfl,q⟩
def qdH (i j:Int):Prop:=0 < j/\j < 1073741824
def qdl (i j:Int):Prop:=0<=j/\j<=1000000/\i.natAbs < 2 ^ 64
def CMul (i j:Int):Prop:=(-(2 ^ 64) < i/\i < 2 ^ 64)\/(-(2 ^ 64) < j/\j < 2 ^ 64)
theorem CMul.ok {i j:Int} (h:CMul i j):IntMulOk i j:=by
 rcases h with ⟨h1,h2⟩ | ⟨h1,h2⟩
 ·exact .of_left (intBits_le_64 h1 h2)
 ·exact .of_right (intBits_le_64 h1 h2)
theorem qdI:OpR X (binaryOp .Add) (rI0 fun i j=>.int (i+j)):=qgO fun _ _ _ _ _ _ _ q=>add_int q
theorem qdJ:OpR X (binaryOp .Sub) (rI0 fun i j=>.int (i - j)):=qgO fun _ _ _ _ _ _ _ q=>sub_int q
theorem qdK:OpR X (binaryOp .Mult) (rI CMul fun i j=>.int (i * j)):=opI fun _ _ _ _ _ _ _ hc q=>mul_int q hc.ok
theorem qbR:OpR X (binaryOp .FloorDiv) (rI qdH fun i j=>.int (i / j)):=opI fun i j _ _ _ _ _ hc q=>by
 have h1:(0:Int) < j:=hc.1
 have h2:j < 1073741824:=hc.2
 exact floordiv_int (by omega) (by rw [Int.fdiv_eq_ediv_of_nonneg i (by omega)]; exact q) (.inl (PyProof.noPylong_small (by omega)))
theorem qdL:OpR X (binaryOp .Mod) (rI (fun _ j=>0 < j) fun i j=>.int (i % j)):=opI fun i j _ _ _ _ _ hc q=>by
 have h1:(0:Int) < j:=hc
 exact mod_int' (by omega) (by rw [Int.fmod_eq_emod_of_nonneg i (by omega)]; exact q)
theorem qaZ:OpR X (binaryOp .Pow) (rI qdl fun i j=>.int (i ^ j.toNat)):=opI fun _ _ _ _ _ _ _ hc q=>pow_int_small hc.1 hc.2.1 hc.2.2 q
theorem unI {f:Value->Sem Value} {g:Int->Int}
  (rule:∀ (i:Int) (t:Tok) (s:Shared) (Q:Value->Shared->Prop) (E:Value->Shared->Prop),Q (.int (g i) s.toks) { s with toks:=s.toks+1 }->wpAny (model X.prog X.w) X.A (f (.int i t)) Q E s) :
  UnR X f (rU fun i=>.int (g i)):=by
 intro pins s σ H x v Q I rx h
 obtain ⟨i,rfl,q⟩:=h
 obtain ⟨t,rfl⟩:=rx
 exact rule i t s _ _ ⟨.int (g i),H,I.tok _,⟨_,rfl⟩,q⟩
theorem qdM:UnR X (unaryOp .USub) (rU fun i=>.int (-i)):=unI fun _ _ _ _ _ q=>neg_int q
end
variable {op op':CmpOp} {r':R2}
section
variable {a b:Expr} {tb tc:TE}
theorem VX {Q:VK} {k k':Bool} (I:Inv X pins σ H s) (q:Q (.bl k) H) (e:k=k'):EP X pins σ Q (.bool k') s:=by
 subst e
 exact ⟨.bl k,H,I,rfl,q⟩
theorem qfW:OpR X (compareOp .Lt) (rI0 fun i j=>.bl (decide (i < j))):=qfl fun _ _ _ _ _ _ _ q=>lt_int q
theorem qfX:OpR X (compareOp .LtE) (rI0 fun i j=>.bl (decide (i<=j))):=qfl fun _ _ _ _ _ _ _ q=>le_int q
theorem qfY:OpR X (compareOp .Gt) (rI0 fun i j=>.bl (decide (j < i))):=qfl fun _ _ _ _ _ _ _ q=>gt_int q
theorem qfZ:OpR X (compareOp .GtE) (rI0 fun i j=>.bl (decide (j<=i))):=qfl fun _ _ _ _ _ _ _ q=>ge_int q
theorem Yr:OpR X (compareOp .Lt) (fun x y H Q=>∃ i j,x=.str i/\y=.str j/\Q (.bl (decide (i.cps.toList < j.cps.toList))) H):=by
 intro pins s σ H x y v u Q I rx ry h
 obtain ⟨i,j,rfl,rfl,q⟩:=h
 obtain ⟨t,rfl⟩:=rx
 obtain ⟨t',rfl⟩:=ry
 exact lt_str (VX I q rfl)
theorem qdN:OpR X (compareOp .Is) (fun x y H Q=>y=.non/\Q (.bl (decide (x=.non))) H):=by
 intro pins s σ H x y v u Q I rx ry h
 obtain ⟨rfl,q⟩:=h
 cases ry
 refine is_none_gen (VX I q ?_)
 cases x <;> first
  | (cases rx; rfl)
  | (obtain ⟨t,rfl⟩:=rx; rfl)
theorem qbS:OpR X (compareOp .IsNot) (fun x y H Q=>y=.non/\Q (.bl (!decide (x=.non))) H):=by
 intro pins s σ H x y v u Q I rx ry h
 obtain ⟨rfl,q⟩:=h
 cases ry
 refine isnot_none_gen (VX I q ?_)
 cases x <;> first
  | (cases rx; rfl)
  | (obtain ⟨t,rfl⟩:=rx; rfl)
theorem qa0 (b:Expr) (h:op≠.In:=by decide) (h2:op≠.NotIn:=by decide):behindInMarks op b=false:=by
 have e1:(op == CmpOp.In)=false:=by cases op <;> first | rfl | exact absurd rfl h
 have e2:(op == CmpOp.NotIn)=false:=by cases op <;> first | rfl | exact absurd rfl h2
 cases b <;> simp [behindInMarks,e1,e2]
theorem qbT (ho:OpR X (compareOp op) r) (ha:PE X a ta) (hb:PE X b tb) (hm:behindInMarks op b=false):PE X (.Compare a [op] [b] pos) (tOp r ta tb):=by
 refine ⟨?_⟩
 intro pins s σ H Q I h
 exact wpAny_Compare1 (qfT ha hb I h fun v u s2 x y H2 I2 rx ry q=>ho pins s2 σ H2 x y v u Q I2 rx ry q) hm
def qdO (t:TE):TT:=fun σ H Q=>t σ H fun x H'=>∃ k,x=.bl k/\Q k H'
theorem qbU (ho:OpR X (compareOp op) r) (ha:PE X a ta) (hb:PE X b tb) (hm:behindInMarks op b=false):PT X (.Compare a [op] [b] pos) (qdO (tOp r ta tb)):=by
 refine ⟨?_⟩
 intro pins s σ H Q I h
 refine wpAny_isTrue_Compare1 (thn (ha pins s σ H _ I h) fun v s1 ⟨x,H1,I1,r1,q1⟩=>thn (hb pins s1 σ H1 _ I1 q1) fun u s2 ⟨y,H2,I2,r2,q2⟩=>
  thn (ho pins s2 σ H2 x y v u _ I2 r1 r2 q2) fun c s3 ⟨z,H3,I3,r3,k,e,q3⟩=>?_) hm
 subst e
 cases r3
 exact wpAny_truthy_bool ⟨H3,I3,q3⟩
def Ys (r r':R2) (ta tb tc:TE):TE:=fun σ H Q=>ta σ H fun x H1=>tb σ H1 fun y H2=>r x y H2 fun z H3=>∃ k,z=.bl k /\
 (if k=true then tc σ H3 fun w' H4=>r' y w' H4 Q else Q (.bl false) H3)
theorem Gh (ho:OpR X (compareOp op) r) (ho':OpR X (compareOp op') r') (ha:PE X a ta) (hb:PE X b tb) (hc:PE X c tc)
  (hm:lastMarks [op,op'] [b,c]=false:=by with_unfolding_all rfl):PE X (.Compare a [op,op'] [b,c] pos) (Ys r r' ta tb tc):=by
 refine ⟨?_⟩
 intro pins s σ H Q I h
 refine Compare_chain (thn (ha pins s σ H _ I h) fun v s1 ⟨x,H1,I1,r1,q1⟩=>chain_link (thn (hb pins s1 σ H1 _ I1 q1) fun u s2 ⟨y,H2,I2,r2,q2⟩=>
  thn (ho pins s2 σ H2 x y v u _ I2 r1 r2 q2) fun d s3 ⟨z,H3,I3,r3,k,e,q3⟩=>?_)) hm
 subst e
 cases r3
 refine wpAny_truthy_bool ?_
 cases k with
 | false=>exact ite_ff ⟨.bl false,H3,I3,rfl,q3⟩
 | true=>exact ite_tt (chain_last (thn (hc pins s3 σ H3 _ I3 q3) fun w' s4 ⟨z',H4,I4,r4,q4⟩=>ho' pins s4 σ H4 y z' u w' Q I4 r2 r4 q4))
theorem Gi (ho:OpR X (compareOp op) r) (ho':OpR X (compareOp op') r') (ha:PE X a ta) (hb:PE X b tb) (hc:PE X c tc)
  (hm:lastMarks [op,op'] [b,c]=false:=by with_unfolding_all rfl):PT X (.Compare a [op,op'] [b,c] pos) (qdO (Ys r r' ta tb tc)):=by
 refine ⟨?_⟩
 intro pins s σ H Q I h
 refine isTrue_chain (thn (ha pins s σ H _ I h) fun v s1 ⟨x,H1,I1,r1,q1⟩=>test_link (thn (hb pins s1 σ H1 _ I1 q1) fun u s2 ⟨y,H2,I2,r2,q2⟩=>
  thn (ho pins s2 σ H2 x y v u _ I2 r1 r2 q2) fun d s3 ⟨z,H3,I3,r3,k,e,q3⟩=>?_)) hm
 subst e
 cases r3
 refine wpAny_truthy_bool ?_
 cases k with
 | false=>
  obtain ⟨k',e',q'⟩:=q3
  cases e'
  exact ite_ff ⟨H3,I3,q'⟩
 | true=>
  refine ite_tt (test_last (thn (hc pins s3 σ H3 _ I3 q3) fun w' s4 ⟨z',H4,I4,r4,q4⟩=>thn (ho' pins s4 σ H4 y z' u w' _ I4 r2 r4 q4) fun d' s5 ⟨z2,H5,I5,r5,k2,e2,q5⟩=>?_))
  subst e2
  cases r5
  exact wpAny_truthy_bool ⟨H5,I5,q5⟩
def qf0 (K:Frag) (x:V) (H:Hp) (k:Bool):Prop:=
 match x with
 | .non=>k=false
 | .bl b=>k=b
 | .int i=>k=(i != 0)
 | .str y=>y.length<=sizeLine/\k=((y.length:Int) != 0)
 | .byt y=>y.size<=sizeLine/\k=((y.size:Int) != 0)
 | .ref p=>(∃ xs,SqL K H p xs/\k=!xs.isEmpty)\/(∃ xs,SqT K H p xs/\k=!xs.isEmpty)\/∃ kvs,H p=some (.dK kvs)/\k=!kvs.isEmpty
 | _=>False
theorem Uw {κ:Type} {kvs:List (κ×V)} {vs:List (κ×Value)} (r:KV kvs vs):(!vs.isEmpty)=!kvs.isEmpty:=by
 cases r <;> rfl
theorem gA {its:List Value} (r:Vals xs its):(!its.toArray.isEmpty)=!xs.isEmpty:=by
 cases r <;> simp
theorem gB:(sizeLine:Nat) < 2 ^ 63:=by rw [sizeLine_eq]; decide
theorem qdP:qhv X (fun x H Q=>∃ k,qf0 X.K x H k/\Q k H):=by
 intro pins s σ H x v Q I rx h
 obtain ⟨k,e,q⟩:=h
 have hl:=gB
 have hs:sizeLine=16777216:=sizeLine_eq
 cases x with
 | non=>
  cases rx
  have e':k=false:=e
  subst e'
  exact truthy_none ⟨H,I,q⟩
 | bl b=>
  cases rx
  have e':k=b:=e
  subst e'
  exact wpAny_truthy_bool ⟨H,I,q⟩
 | int i=>
  obtain ⟨t,rfl⟩:=rx
  have e':k=(i != 0):=e
  subst e'
  exact PySem.P.truthy_int ⟨H,I,q⟩
 | str y=>
  obtain ⟨t,rfl⟩:=rx
  obtain ⟨hy,e'⟩:y.length<=sizeLine/\k=((y.length:Int) != 0):=e
  subst e'
  exact PySem.P.truthy_str (by omega) ⟨H,I.tok _,q⟩
 | byt y=>
  obtain ⟨t,rfl⟩:=rx
  obtain ⟨hy,e'⟩:y.size<=sizeLine/\k=((y.size:Int) != 0):=e
  subst e'
  exact PySem.W.truthy_bytes (by omega) ⟨H,I.tok _,q⟩
 | ref p=>
  cases rx
  have e':(∃ xs,SqL X.K H p xs/\k=!xs.isEmpty)\/(∃ xs,SqT X.K H p xs/\k=!xs.isEmpty)\/∃ kvs,H p=some (.dK kvs)/\k=!kvs.isEmpty:=e
  rcases e' with ⟨xs,hx,e'⟩ | ⟨xs,hx,e'⟩ | ⟨kvs,hx,e'⟩
  ·subst e'
   obtain ⟨its,r,pl,hz⟩:=I.list hx
   have hlen:=r.length
   exact wpAny_truthy_list pl.isList (by simp only [aq]; omega) ⟨H,I.tok _,by rw [gA r]; exact q⟩
  ·subst e'
   obtain ⟨its,r,pl,hz⟩:=I.tuple hx
   have hlen:=r.length
   exact truthy_tuple pl (by simp only [aq]; omega) ⟨H,I.tok _,by rw [gA r]; exact q⟩
  ·subst e'
   obtain ⟨hz,hS,vs,r,m⟩:kvs.length<=sizeLine/\(p == sysModules)=false/\∃ vs,KV kvs vs/\s.heap.DictOf (jH X.prog X.w) p vs:=I.hok p _ hx
   have hlen:kvs.length=vs.length:=eO r
   exact wpAny_truthy_dict hS m (by omega) ⟨H,I.tok _,by rw [Uw r]; exact q⟩
 | _=>exact (show False from e).elim
theorem Gj (ha:PE X a ta) (he:∀ whole,isTrue a X.env whole=(do let v <-whole; standAt a.pos; holding [v] (truthy v))) :
  PT X a (fun σ H Q=>ta σ H fun x H'=>∃ k,qf0 X.K x H' k/\Q k H'):=by
 refine ⟨?_⟩
 intro pins s σ H Q I h
 exact isTrue_plain (thn (ha pins s σ H _ I h) fun v s1 ⟨x,H1,I1,r1,q1⟩=>qdP pins s1 σ H1 x v Q I1 r1 q1) (he _)
theorem Ux:OpR X (binaryOp .Add) (fun x y H Q=>∃ i j,x=.str i/\y=.str j/\i.length+j.length<=sizeLine/\Q (.str (i++j)) H):=by
 intro pins s σ H x y v u Q I rx ry h
 obtain ⟨i,j,rfl,rfl,hz,q⟩:=h
 obtain ⟨t,rfl⟩:=rx
 obtain ⟨t',rfl⟩:=ry
 exact add_str (fun t' tk=>⟨.str (i++j),H,I.tok _,⟨_,rfl⟩,q⟩) hz
theorem uG {x:V} (r:Vals [x] us):∃ u,us=[u]/\RelV x u:=by
 cases r with
 | cons r1 r2=>cases r2; exact ⟨_,rfl,r1⟩
theorem qbV {x y:V} (r:Vals [x,y] us):∃ u w',us=[u,w']/\RelV x u/\RelV y w':=by
 cases r with
 | cons r1 r2=>
  cases r2 with
  | cons r3 r4=>cases r4; exact ⟨_,_,rfl,r1,r3⟩
theorem Yt (hc:X.calm=true):uw X (.builtin "max") (fun xs H Q=>∃ i j,xs=[.int i,.int j]/\Q (.int (if j > i then j else i)) H):=by
 intro pins s σ H xs us Q I r h
 obtain ⟨i,j,rfl,q⟩:=h
 obtain ⟨u,w',rfl,⟨t,rfl⟩,⟨t',rfl⟩⟩:=qbV r
 refine max_two_ints (I.ok.hd hc) fun h' tk k=>⟨_,H,I.kept k,?_,q⟩
 by_cases hj:j > i
 ·rw [if_pos hj,if_pos hj]; exact ⟨_,rfl⟩
 ·rw [if_neg hj,if_neg hj]; exact ⟨_,rfl⟩
theorem Yu (hc:X.calm=true):uw X (.builtin "min") (fun xs H Q=>∃ i j,xs=[.int i,.int j]/\Q (.int (if j < i then j else i)) H):=by
 intro pins s σ H xs us Q I r h
 obtain ⟨i,j,rfl,q⟩:=h
 obtain ⟨u,w',rfl,⟨t,rfl⟩,⟨t',rfl⟩⟩:=qbV r
 refine min_two_ints (I.ok.hd hc) fun h' tk k=>⟨_,H,I.kept k,?_,q⟩
 by_cases hj:j < i
 ·rw [if_pos hj,if_pos hj]; exact ⟨_,rfl⟩
 ·rw [if_neg hj,if_neg hj]; exact ⟨_,rfl⟩
def qhw (K:Frag) (x:V) (H:Hp) (n:Nat):Prop:=
 match x with
 | .str y=>y.length<=sizeLine/\n=y.length
 | .byt y=>y.size<=sizeLine/\n=y.size
 | .ref p=>(∃ xs,SqL K H p xs/\n=xs.length)\/∃ xs,SqT K H p xs/\n=xs.length
 | _=>False
theorem gT:uw X (.builtin "len") (fun xs H Q=>∃ x n,xs=[x]/\qhw X.K x H n/\Q (.int n) H):=by
 intro pins s σ H xs us Q I r h
 obtain ⟨x,n,rfl,e,q⟩:=h
 obtain ⟨u,rfl,rx⟩:=uG r
 have hl:=gB
 have hs:sizeLine=16777216:=sizeLine_eq
 cases x with
 | str y=>
  obtain ⟨t,rfl⟩:=rx
  obtain ⟨hy,e'⟩:y.length<=sizeLine/\n=y.length:=e
  subst e'
  exact len_str (by omega) ⟨.int _,H,I.tok _,⟨_,rfl⟩,q⟩
 | byt y=>
  obtain ⟨t,rfl⟩:=rx
  obtain ⟨hy,e'⟩:y.size<=sizeLine/\n=y.size:=e
  subst e'
  exact PySem.W.len_bytes (by omega) ⟨.int _,H,I.tok _,⟨_,rfl⟩,q⟩
 | ref p=>
  cases rx
  have e':(∃ xs,SqL X.K H p xs/\n=xs.length)\/∃ xs,SqT X.K H p xs/\n=xs.length:=e
  rcases e' with ⟨xs,hx,e'⟩ | ⟨xs,hx,e'⟩
  ·subst e'
   obtain ⟨its,r',pl,hz⟩:=I.list hx
   have hlen:=r'.length
   exact Calls.call_len_list pl.isList (by simp only [aq]; omega) ⟨.int xs.length,H,I.tok _,⟨_,by simp only [aq]; rw [hlen]⟩,q⟩
  ·subst e'
   obtain ⟨its,r',pl,hz⟩:=I.tuple hx
   have hlen:=r'.length
   exact len_tuple pl (by simp only [aq]; omega) ⟨.int xs.length,H,I.tok _,⟨_,by simp only [aq]; rw [hlen]⟩,q⟩
 | _=>exact (show False from e).elim
end
structure ObjM (h:Heap) (x dx C:Addr) (mA:Str->Option Value):Prop where
 obj:h.get? x=some (cx C dx)
 ns:h.Ns1 dx mA
 ne:dx≠x
variable {dx:Addr} {mA:Str->Option Value}
theorem Yv (n:h.Ns1 dx mA):∃ od,h.get? dx=some od/\∀ name,fh name od=some (mA name):=by
 obtain ⟨o,es,ep,ho,hd,hk,_,hm⟩:=n
 refine ⟨o,ho,fun name=>?_⟩
 have e:=hm name
 unfold nsFind findBy at e
 rw [<-Array.find?_toList] at e
 unfold fh
 rw [hd]
 dsimp only
 split
 ·rename_i y q
  rw [q] at e
  exact congrArg some e
 ·rename_i q
  rw [q] at e
  have a:es.toList.any (·.refKey)=false:=by
   rw [List.any_eq_false]
   intro y hy
   obtain ⟨z,t,hkey⟩:=hk y (Array.mem_toList_iff.mp hy)
   simp [DictEntry.refKey,hkey]
  have a':¬es.toList.any (·.refKey)=true:=by rw [a]; exact bf
  rw [if_neg a']
  exact congrArg some e
variable {C:Addr}
theorem ObjM.look {x:Addr} (I:ObjM h x dx C mA):∃ od,PySem.W.InstAt h x (cx C dx) C (some od)/\∀ name,fh name od=some (mA name):=
 let ⟨od,ho,hl⟩:=Yv I.ns
 ⟨od,⟨I.obj,rfl,rfl,ho⟩,hl⟩
theorem RelO.some_of {o:Option Value} (r:RelO (some v) o):∃ u,o=some u/\RelV v u:=by
 cases o with
 | none=>exact (show False from r).elim
 | some u=>exact ⟨u,rfl,r⟩
section
variable {fs:List (Str×V)} {f:Str}
theorem Inv.made (I:Inv X pins σ H s):Inv X pins σ (upd (upd H s.heap.objs.size (.own (s.heap.objs.size+1))) (s.heap.objs.size+1) (.ins C s.heap.objs.size []))
  { s with heap:=(s.heap.push bT).push (cx C s.heap.objs.size) }:=by
 have e1:(s.heap.push bT).get? s.heap.objs.size=some bT:=ao s.heap rfl
 have e2:((s.heap.push bT).push (cx C s.heap.objs.size)).get? (s.heap.objs.size+1)=some (cx C s.heap.objs.size):=by
  have:=ao (s.heap.push bT) (o:=cx C s.heap.objs.size) rfl
  rwa [bP] at this
 have e3:(s.heap.push bT).Ns s.heap.objs.size (fun _=>none):=⟨bT,#[],_,e1,rfl,(fun e he=>absurd he (by simp)),fun _=>rfl⟩
 have I1:=I.laid (a:=s.heap.objs.size) (o:=.own (s.heap.objs.size+1)) (h':=s.heap.push bT) (t':=s.toks) (fun b u q=>ae _ q) (ax _) ⟨_,e1⟩
 refine I1.laid (a:=s.heap.objs.size+1) (o:=.ins C s.heap.objs.size []) (t':=s.toks) (fun b u q=>ae _ q) (eh (bP _ _)) ?_
 have ne:s.heap.objs.size≠s.heap.objs.size+1:=aE (Nat.lt_succ_self _)
 refine ⟨by rw [qx ne,qo],bB _,ne,e2,fun _=>none,(Heap.Ns1.of_empty e3).at fun o q=>ae _ q,fun _=>cW,fun y hy=>absurd rfl hy⟩
end
structure Room (k:Nat) (A:Around):Prop where
 hd:A.handled=none
 dp:A.depth+3 * k+5 < recursionLimit
 un:A.units+16 * k+200 < cLine
theorem Room.mono {j k:Nat} (r:Room k A) (h:j<=k):Room j A:=⟨r.hd,by have:=r.dp; omega,by have:=r.un; omega⟩
theorem Room.deeper {k:Nat} (r:Room (k+1) A) (env:Env):Room k (A.deeper env):=
 ⟨r.hd,by have:=r.dp; show A.depth+1+3 * k+5 < _; omega,by have:=r.un; show A.units+3+16 * k+200 < _; omega⟩
theorem Room.in1 {k:Nat} (r:Room (k+1) A):Room k A.in1:=
 ⟨r.hd,by have:=r.dp; show A.depth+3 * k+5 < _; omega,by have:=r.un; show A.units+1+16 * k+200 < _; omega⟩
theorem Room.depth {k:Nat} (r:Room k A):A.depth < recursionLimit:=by have:=r.dp; omega
theorem Room.units {k:Nat} (r:Room k A):A.units+64 < cLine:=by have:=r.un; omega
def qf1:TA:=fun _ H Q=>Q [] H
def Gk (ta:TE) (tr:TA):TA:=fun σ H Q=>ta σ H fun x H1=>tr σ H1 fun xs H2=>Q (x::xs) H2
section
variable {t:TA}
theorem jM:PA X [] qf1:=⟨fun _ _ _ _ H Q I h=>eD ⟨[],H,I,.nil,h⟩⟩
theorem qV (ha:PE X e te) (hr:PA X es t) (hs:starEach (e::es) X.env=(false,eval e X.env)::starEach es X.env:=by rfl):PA X (e::es) (Gk te t):=by
 refine ⟨?_⟩
 intro pos pins s σ H Q I h
 rw [hs]
 show wpAny _ _ (spliced ((false,eval e X.env)::backTo pos (starEach es X.env))) _ _ s
 refine dk (thn (ha pins s σ H _ I h) fun u s1 ⟨x,H1,I1,r1,q1⟩=>?_)
 exact thn (hr pos pins s1 σ H1 _ I1 q1) fun us s2 ⟨xs,H2,I2,r2,q2⟩=>⟨x::xs,H2,I2,.cons r1 r2,q2⟩
def qhx (t:TA):TE:=fun σ H Q=>t σ H fun xs H1=>xs.length<=sizeLine/\∀ p,H1 p=none->Q (.ref p) (upd H1 p (.tup xs))
def qhy (t:TA):TE:=fun σ H Q=>t σ H fun xs H1=>xs.length<=sizeLine/\∀ p,H1 p=none->Q (.ref p) (upd H1 p (.lst xs))
theorem qdQ {x1} (h:PA X es t):PE X (.Tuple es x1 pos) (qhx t):=by
 refine ⟨?_⟩
 intro pins s σ H Q I hq
 refine wpAny_Tuple_spliced (thn (h pos pins s σ H _ I hq) fun us s1 ⟨xs,H1,I1,r,z,q⟩=>⟨by rw [<-r.length]; exact z,?_⟩)
 have hf:H1 s1.heap.objs.size=none:=I1.hok.fresh (ax _)
 refine ⟨.ref s1.heap.objs.size,upd H1 s1.heap.objs.size (.tup xs),I1.laid (t':=s1.toks) (fun b u e=>ae _ e) (ax _) ?_,rfl,q _ hf⟩
 exact ⟨⟨z,_,ao _ rfl,rfl⟩,us,r,⟨_,ao _ rfl,rfl,_,rfl⟩⟩
theorem qdR (h:PA X es t):PE X (.List es pos) (qhy t):=by
 refine ⟨?_⟩
 intro pins s σ H Q I hq
 refine wpAny_List_spliced (thn (h pos pins s σ H _ I hq) fun us s1 ⟨xs,H1,I1,r,z,q⟩=>⟨by rw [<-r.length]; exact z,?_⟩)
 have hf:H1 s1.heap.objs.size=none:=I1.hok.fresh (ax _)
 refine ⟨.ref s1.heap.objs.size,upd H1 s1.heap.objs.size (.lst xs),I1.laid (t':=s1.toks) (fun b u e=>ae _ e) (ax _) ?_,rfl,q _ hf⟩
 exact ⟨z,us,0,r,ao _ rfl⟩
end
abbrev Sp:=List V->Hp->VK->XK->Prop
abbrev CXT:=List Env->Hp->Shared->XK->Value->Shared->Prop
structure Env0 (P:Program) (w:World) (K:Frag) (mg:Str->Option Value) (base:Heap) (A:Around) (outer:List Env) (s:Shared) (H:Hp):Prop where
 frames:A.frames=some outer
 mod:Mod K mg base
 bs:∀ b o,base.get? b=some o->s.heap.get? b=some o/\H b=none
 bsz:base.objs.size<=s.heap.objs.size
 funs:s.heap.FunFrames base outer
 frf:∀ b∈frs outer,H b=none
 hok:HOk P w H s.heap
 bare:AllBare s.gens
def CE (outer:List Env) (P:Program) (w:World) (H:Hp) (s:Shared) (Q:VK) (u:Value) (s':Shared):Prop:=
 ∃ v H',s'.os=s.os/\AllBare s'.gens/\Un (frs outer) [] H H' s.heap s'.heap/\HOk P w H' s'.heap/\RelV v u/\Q v H'
def CR (CX:CXT) (outer:List Env) (P:Program) (w:World) (H:Hp) (s:Shared) (Q:VK) (E:XK) (r:Result) (s':Shared):Prop:=
 match r with
 | .ok (.ret u)=>CE outer P w H s Q u s'
 | .ok _=>False
 | .error e=>CX outer H s E e s'
structure FnOk (P:Program) (w:World) (K:Frag) (mg:Str->Option Value) (base:Heap) (CX:CXT) (k:Nat) (f:Addr) (fd:FuncData) (ps:List Str) (sp:Sp):Prop where
 len:∀ vs H Q E,sp vs H Q E->vs.length=ps.length
 run:∀ (A:Around) (outer:List Env) (s:Shared) (H:Hp) (args:Args) (us:List Value) (vs:List V) (Q:VK) (E:XK),Room k A->Env0 P w K mg base A outer s H->BindsTo s fd args (ps.zip us)->Vals vs us->sp vs H Q E ->
  codeAny (model P w) A (.call (.ref f) args) (CR CX outer P w H s Q E) s
variable {f:Addr} {mg:Str->Option Value} {base:Heap} {CX:CXT} {fd:FuncData} {ps:List Str} {sp:Sp}
theorem FnOk.imp {k:Nat} {sp':Sp} (F:FnOk P w K mg base CX k f fd ps sp)
  (h:∀ vs H Q E,sp' vs H Q E->sp vs H Q E):FnOk P w K mg base CX k f fd ps sp':=
 ⟨fun vs H Q E q=>F.len vs H Q E (h _ _ _ _ q),fun A outer s H args us vs Q E hr he hb hv hs=>F.run A outer s H args us vs Q E hr he hb hv (h _ _ _ _ hs)⟩
theorem Env0.in1 {outer:List Env} (e:Env0 P w K mg base A outer s H) :
  Env0 P w K mg base A.in1 outer s H:=⟨e.frames,e.mod,e.bs,e.bsz,e.funs,e.frf,e.hok,e.bare⟩
section
theorem Inv.env0 (I:Inv X pins σ H s):Env0 X.prog X.w X.K X.mg X.base X.A X.stack s H:=
 ⟨I.ok.frames,I.ok.mod,I.bs,bc I.ok.bsz I.sz,I.stack,I.stkFree,I.hok,I.bare⟩
theorem Inv.after {Q:VK} (I:Inv X pins σ H s) (h:CE X.stack X.prog X.w H s Q u s'):EP X pins σ Q u s':=by
 obtain ⟨v,H',os,bare,un,hok,r,q⟩:=h
 obtain ⟨hh,g,d,t,os'⟩:=s'
 obtain rfl:os'=s.os:=os
 exact ⟨v,H',I.call (h':=hh) (g':=g) (d':=d) (t':=t) (ch:=[]) un hok bare (fun b z=>absurd z (by simp)),r,q⟩
end
def qf2 (sp:Sp) (dvs:List V) (E:XK) (t:TA):TE:=fun σ H Q=>t σ H fun vs H1=>sp (vs++dvs) H1 Q E
def Binds (K:Frag) (fd:FuncData) (ps:List Str) (ds:List Value):Prop:=
 ∀ (s:Shared) (us:List Value),K.In s.heap->(us++ds).length=ps.length->BindsTo s fd ⟨us,[]⟩ (ps.zip (us++ds))
theorem Binds.all (h:∀ us:List Value,us.length=ps.length->bindArgs fd ⟨us,[]⟩=pure (ps.zip us)):Binds K fd ps []:=fun s us _ hl=>by
 rw [aZ] at hl ⊢
 exact .of_eq (h us hl)
def gC (CX:CXT) (X:Cx) (E:XK):Prop:=∀ (pins:List (Addr×Obj)) (σ:St) (H:Hp) (s:Shared) (e:Value) (s':Shared),Inv X pins σ H s->CX X.stack H s E e s'->X.xe e s'
variable {apos:Pos}
section
variable {k:Nat} {dvs:List V} {ds:List Value} {E:XK} {m:Str} {o:Expr} {t:TA}
theorem qdS {pins:List (Addr×Obj)} {σ:St} {H:Hp} {s:Shared} {Q:VK} {us:List Value} {vs:List V} (F:FnOk X.prog X.w X.K X.mg X.base CX k f fd ps sp) (hr:Room k X.A) (hb:Binds X.K fd ps ds) (hd:Vals dvs ds) (hx:gC CX X E)
  (I:Inv X pins σ H s) (r:Vals vs us) (h:sp (vs++dvs) H Q E):wpAny (model X.prog X.w) X.A (call (.ref f) us) (EP X pins σ Q) X.xe s:=by
 have r2:Vals (vs++dvs) (us++ds):=r.append hd
 have hl:(us++ds).length=ps.length:=by rw [<-r2.length]; exact F.len _ _ _ _ h
 refine wpAny_call (codeAny_mono (F.run X.A X.stack s H ⟨us,[]⟩ (us++ds) (vs++dvs) Q E hr I.env0 (hb s us I.kIn hl) r2 h) fun r s' hq=>?_)
 cases r with
 | error e=>exact hx pins σ H s e s' I hq
 | ok fl=>
  cases fl with
  | ret u=>exact I.after hq
  | next=>exact cX hq
  | brk=>exact cX hq
  | cont=>exact cX hq
theorem qbW (F:FnOk X.prog X.w X.K X.mg X.base CX k f fd ps sp) (hr:Room k X.A) (hg:Gl X x) (hm:X.mg x=some (.ref f)) (hk:keepIn X.K (.ref f)=true) (hb:Binds X.K fd ps ds) (hd:Vals dvs ds) (hx:gC CX X E)
  (ha:PA X (e::es) t) (hdb:(x == ("__debug__":Str))=false:=by decide) (he:starEach (e::es) X.env=(false,eval e X.env)::starEach es X.env:=by rfl) (hpl:(backTo pos (starEach es X.env)).any (·.1)=false:=by rfl) :
  PE X (.Call (.Name x p) (e::es) [] pos) (qf2 sp dvs E t):=by
 refine ⟨?_⟩
 intro pins s σ H Q I h
 refine wpAny_Call_Name_kw (KG I hg hm ?_ hdb)
 refine PySem.W.callWith_K (h₀:=X.base) I.ok.mod.kin hk (thn (ha pos pins s σ H _ I h) fun us s1 ⟨vs,H1,I1,r,q⟩=>⟨I1.kIn,?_⟩) he hpl
 exact qdS F hr hb hd hx I1 r q
end
section
variable {k:Nat} {ks:List Str} {E:XK} {m:Str} {kpos:Pos} {o:Expr} {kws:List Keyword} {t tk:TA} {nm:Option Str}
variable {g:List Value->List Value->List Value} {gV:List V->List V->List V}
end
structure FnScope (N P:List Str) (sc:Scope):Prop where
 kind:sc.kind=.function
 co:sc.isCoroutine=false
 gen:sc.isGenerator=false
 nd:N.Nodup
 pre:N.take P.length=P
 par:∀ x∈P,sc.names.lookup x=some .local\/sc.names.lookup x=some .cell
 nofree:∀ y∈sc.names,y.2≠.free
variable {kindOf:Str->Option NameKind}
theorem Jj:∀ {binds:List (Str×Value)} {m:Str->Option Value},(∀ v,(x,v)∉binds)->bindL kindOf binds m x=m x
 | [],_,_=>rfl
 | (n,v)::r,m,h=>by
  unfold bindL
  rw [Jj fun w hw=>h w (aa _ hw)]
  split
  ·have:x≠n:=by rintro rfl; exact h v ah
   simp [this]
  ·rfl
theorem Jk:∀ {binds:List (Str×Value)} {m:Str->Option Value},(∀ v,(x,v)∉binds)->bindC kindOf binds m x=m x
 | [],_,_=>rfl
 | (n,v)::r,m,h=>by
  unfold bindC
  rw [Jk fun w hw=>h w (aa _ hw)]
  split
  ·rfl
  ·have:x≠n:=by rintro rfl; exact h v ah
   simp [this]
theorem Jl {kindOf:Str->Option NameKind} {x:Str} {v:Value}:∀ {P:List Str} {vs:List Value} {i:Nat} {m:Str->Option Value},P.Nodup->P[i]?=some x->vs[i]?=some v->kindOf x=some .local ->
  bindL kindOf (P.zip vs) m x=some v
 | [],_,_,_,_,h,_,_=>by simp at h
 | _::_,[],_,_,_,_,h,_=>by simp at h
 | p::P,w::vs,0,m,nd,h1,h2,hk=>by
  simp at h1 h2; subst h1; subst h2
  show bindL kindOf ((p,w)::P.zip vs) m p=_
  unfold bindL
  rw [Jj fun v hv=>(aK.mp nd).1 (e7 hv).1,if_pos hk]
  simp
 | p::P,w::vs,i+1,m,nd,h1,h2,hk=>by
  show bindL kindOf ((p,w)::P.zip vs) m x=_
  unfold bindL
  exact Jl (i:=i) (aK.mp nd).2 (by simpa using h1) (by simpa using h2) hk
theorem Jm {kindOf:Str->Option NameKind} {x:Str} {v:Value}:∀ {P:List Str} {vs:List Value} {i:Nat} {m:Str->Option Value},P.Nodup->P[i]?=some x->vs[i]?=some v->kindOf x≠some .local ->
  bindC kindOf (P.zip vs) m x=some v
 | [],_,_,_,_,h,_,_=>by simp at h
 | _::_,[],_,_,_,_,h,_=>by simp at h
 | p::P,w::vs,0,m,nd,h1,h2,hk=>by
  simp at h1 h2; subst h1; subst h2
  show bindC kindOf ((p,w)::P.zip vs) m p=_
  unfold bindC
  rw [Jk fun v hv=>(aK.mp nd).1 (e7 hv).1,if_neg hk]
  simp
 | p::P,w::vs,i+1,m,nd,h1,h2,hk=>by
  show bindC kindOf ((p,w)::P.zip vs) m x=_
  unfold bindC
  exact Jm (i:=i) (aK.mp nd).2 (by simpa using h1) (by simpa using h2) hk
noncomputable def uY (N:List Str) (vs:List V):St:=vs.map some++cY (N.length - vs.length) none
def qbX (CX:CXT) (P:Program) (w:World) (K:Frag) (mg:Str->Option Value) (base:Heap) (N:List Str) (qual:Str) (scope:Scope) (f:Addr) (cd:Value) (A:Around) (outer:List Env) (s:Shared) (H:Hp) (E:XK):Cx where
 prog:=P
 w:=w
 K:=K
 mg:=mg
 base:=base
 A:=A.deeper (envOfC qual scope s.heap.objs.size f cd)
 N:=N
 s₀:=s
 H₀:=H
 env:=envOfC qual scope s.heap.objs.size f cd
 outer:=outer
 stack:=envOfC qual scope s.heap.objs.size f cd::outer
 ex:=[]
 calm:=true
 fn:=fun _=>true
 pn:=[]
 xe:=fun e s'=>wpAny (model P w) (A.deeper (envOfC qual scope s.heap.objs.size f cd)) (leaving (envOfC qual scope s.heap.objs.size f cd) e) (fun _ s''=>CX outer H s E e s'') (fun e' s''=>CX outer H s E e' s'') s'
theorem VY {sc:Scope} {n:Nat} (h:sc.names.lookup x=some .cell):∃ c,(cellsFrom n sc.names []).lookup x=some c:=by
 have q:=PySem.W.cellsFrom_some sc.names n [] (.inl h)
 exact Option.isSome_iff_exists.mp q
theorem Yw {CX:CXT} {P:Program} {w:World} {K:Frag} {mg:Str->Option Value} {base:Heap} {N ps:List Str} {qual:Str} {scope:Scope} {f:Addr} {cd:Value} {A:Around} {outer:List Env} {s s1:Shared} {H:Hp} {E:XK} {us:List Value} {vs:List V}
  (S:FnScope N ps scope) (hd:A.handled=none) (e0:Env0 P w K mg base A outer s H) (hl:vs.length=ps.length) (r:Vals vs us)
  (x:InCallC s s.heap.objs.size (bindL (envOfC qual scope s.heap.objs.size f cd).kindOf (ps.zip us) fun _=>none) (cellsFrom (s.heap.objs.size+1) scope.names []) (bindC (envOfC qual scope s.heap.objs.size f cd).kindOf (ps.zip us) fun _=>none) s1) :
  Inv (qbX CX P w K mg base N qual scope f cd A outer s H E) [] (uY N vs) H s1:=by
 have hpl:ps.length<=N.length:=by have:=congrArg fj S.pre; rw [List.length_take] at this; omega
 obtain ⟨h1,tk,rfl,hk⟩:=x.done
 have noA:∀ b:Addr,b∉(qbX CX P w K mg base N qual scope f cd A outer s H E).ex:=fun b z=>absurd (show b∈([]:List Addr) from z) (by simp)
 refine ⟨⟨e0.mod,S.kind,rfl,rfl,ax _,fun y z c h1 h2=>?_,fun y hy=>?_,fun y c _ h=>?_,fun _=>hd,Around.frames_deeper e0.frames,.inr ⟨rfl,rfl⟩,fun b z=>absurd z (noA b),e0.bs,e0.bsz,fun b _ _=>noA b,fun b z=>absurd z (noA b),e0.funs,e0.frf⟩,
  rfl,e0.bare,Un.kept hk,⟨_,x.toInCall.ns,fun i y v h1 h2 h3=>?_⟩,fun y c h=>⟨_,x.cell y c h⟩,e0.hok.fresh (ax _),fun y c h=>?_,fun p hp=>absurd (show p∈([]:List (Addr×Obj)) from hp) (by simp),e0.hok.kept hk,?_⟩
 ·exact name_of_addr x.apart (cK h1) (cK h2)
 ·have hy:scope.names.lookup y=some .cell\/scope.names.lookup y=some .free:=hy
  rcases hy with hy | hy
  ·exact VY hy
  ·exact absurd rfl (S.nofree _ (cK hy))
 ·exact dF (x.above y c (cK h))
 ·have hi:i < vs.length:=by
   unfold uY at h2
   by_cases hi:i < vs.length
   ·exact hi
   ·rw [bF (by simpa using hi)] at h2
    rw [dq] at h2
    split at h2 <;> cases h2
  have ha:vs[i]?=some v:=by
   unfold uY at h2
   rw [bJ (by simpa using hi),aG] at h2
   cases e:vs[i]? with
   | none=>rw [e] at h2; cases h2
   | some a=>rw [e] at h2; cases h2; rfl
  obtain ⟨u,hu,rv⟩:=r.get ha
  have hp:ps[i]?=some y:=by
   rw [<-S.pre,List.getElem?_take_of_lt (by omega)]; exact h1
  have ndP:ps.Nodup:=by rw [<-S.pre]; exact S.nd.sublist (List.take_sublist _ _)
  refine ⟨u,rv,?_⟩
  rcases S.par y (aU hp) with k | k
  ·exact .inl ⟨k,Jl ndP hp hu k⟩
  ·obtain ⟨c,e⟩:=VY (n:=s.heap.objs.size+1) k
   refine .inr ⟨.inl k,c,e,?_⟩
   have q:=x.cell y c e
   rw [Jm ndP hp hu (by show scope.names.lookup y≠_; rw [k]; decide)] at q
   exact q
 ·exact e0.hok.fresh (dF (x.above y c (cK h)))
 ·unfold uY
  show _=N.length
  rw [ai,au,dN]
  omega
theorem qf3 {CX:CXT} {P:Program} {w:World} {K:Frag} {mg:Str->Option Value} {base:Heap} {k:Nat} {f:Addr} {name qual:Str} {params:Arguments} {body:List Stmt} {scope:Scope} {dV kV doc pm cdv ct oc:Value} {an od:Option Addr}
  {osl:Array (Option Value)} {N ps:List Str} {sp:Sp} (lk:K.lookup f=some ⟨oc,od,.func (cA name qual params body scope dV kV doc pm an cdv ct),osl⟩) (hcd:codeIn K cdv qual=true) (S:FnScope N ps scope)
  (len:∀ vs H Q E,sp vs H Q E->vs.length=ps.length)
  (hbody:∀ (A:Around) (outer:List Env) (s:Shared) (H:Hp) (vs:List V) (Q:VK) (E:XK),Room k (A.deeper (envOfC qual scope s.heap.objs.size f cdv))->sp vs H Q E ->
   ∃ t,PSs (qbX CX P w K mg base N qual scope f cdv A outer s H E) body t/\t { nx:=fun _ H'=>Q .non H',rt:=Q } (uY N vs) H) :
  FnOk P w K mg base CX (k+1) f (cA name qual params body scope dV kV doc pm an cdv ct) ps sp:=by
 refine ⟨len,fun A outer s H args us vs Q E hr e0 hb r hsp=>?_⟩
 have hl:=len _ _ _ _ hsp
 have KX:K.In s.heap:=e0.mod.kin.keeps fun b o e=>(e0.bs b o e).1
 have lim:s.heap.NoLimit:=e0.mod.nolimit.keeps fun b o e=>(e0.bs b o e).1
 have hkind:∀ y∈ps.zip us,scope.names.lookup y.1=some .local\/(scope.names.lookup y.1=some .cell/\((cellsFrom (s.heap.objs.size+1) scope.names []).lookup y.1).isSome=true):=fun ⟨n,v⟩ hy=>by
  rcases S.par n (e7 hy).1 with q | q
  ·exact .inl q
  ·exact .inr ⟨q,PySem.W.cellsFrom_some _ _ _ (.inl q)⟩
 refine codeAny_call_function hr.depth (KX _ _ lk) rfl S.co S.gen rfl (PySem.W.codeRec_of KX hcd) (hb _ _ _ _ ?_)
 refine wpAny_newFunctionEnv_cells S.kind hkind fun env he s1 x=>?_
 subst he
 refine ⟨lim.keeps x.toInCall.keep,codeAny_func ?_⟩
 obtain ⟨t,ht,hq⟩:=hbody A outer s H vs Q E (hr.deeper _) hsp
 have I:Inv (qbX CX P w K mg base N qual scope f cdv A outer s H E) [] (uY N vs) H s1:=Yw S hr.hd e0 hl r x
 refine wpAny_mono (ht [] s1 (uY N vs) H _ I hq) (fun fl s' hs=>?_) fun e s' hs=>hs
 have fin:∀ {σ':St} {H':Hp} {v:V} {u:Value},Inv (qbX CX P w K mg base N qual scope f cdv A outer s H E) [] σ' H' s'->RelV v u->Q v H'->CE outer P w H s Q u s':=
  fun {σ' H' v u} J rv q=>⟨v,H',J.os,J.bare,J.base,J.hok,rv,q⟩
 cases fl with
 | ret u=>
  obtain ⟨v,σ',H',J,rv,q⟩:=hs
  exact fin J rv q
 | next=>
  obtain ⟨σ',H',J,q⟩:=hs
  exact fin (v:=V.non) (u:=cq) J rfl q
 | brk=>
  obtain ⟨_,_,_,q⟩:=hs
  exact cX q
 | cont=>
  obtain ⟨_,_,_,q⟩:=hs
  exact cX q
section
variable {t:TA} {id T:String} {r:List V->Hp->VK->Prop}
def tCB (r:List V->Hp->VK->Prop) (t:TA):TE:=fun σ H Q=>t σ H fun vs H1=>r vs H1 Q
theorem uZ (hc:uw X (.builtin id) r) (hg:Gl X x) (hm:X.mg x=none) (hv:bootBuiltins x=some (.builtin id)) (ha:PA X (e::es) t) (hn:x ≠ "__name__":=by decide) (hdb:(x == ("__debug__":Str))=false:=by decide)
  (he:starEach (e::es) X.env=(false,eval e X.env)::starEach es X.env:=by rfl) (hpl:(backTo pos (starEach es X.env)).any (·.1)=false:=by rfl):PE X (.Call (.Name x p) (e::es) [] pos) (tCB r t):=by
 refine ⟨?_⟩
 intro pins s σ H Q I h
 refine wpAny_Call_Name_kw (uX I hg hm hv ?_ hn hdb)
 exact PyProof.Rows.callWith_builtin1 (thn (ha pos pins s σ H _ I h) fun us s1 ⟨vs,H1,I1,r1,q1⟩=>hc pins s1 σ H1 vs us Q I1 r1 q1) he hpl
theorem wA (hc:uw X (.type T) r) (hg:Gl X x) (hm:X.mg x=none) (hv:bootBuiltins x=some (.type T)) (ha:PA X (e::es) t) (hn:x ≠ "__name__":=by decide) (hdb:(x == ("__debug__":Str))=false:=by decide)
  (he:starEach (e::es) X.env=(false,eval e X.env)::starEach es X.env:=by rfl) (hpl:(backTo pos (starEach es X.env)).any (·.1)=false:=by rfl):PE X (.Call (.Name x p) (e::es) [] pos) (tCB r t):=by
 refine ⟨?_⟩
 intro pins s σ H Q I h
 refine wpAny_Call_Name_kw (uX I hg hm hv ?_ hn hdb)
 exact bh (thn (ha pos pins s σ H _ I h) fun us s1 ⟨vs,H1,I1,r1,q1⟩=>hc pins s1 σ H1 vs us Q I1 r1 q1) he hpl
end
end L2
namespace HT
open PySem PyProof.Rows
theorem gU (A:Around) (s:Shared) (a:Int) (t:Tok) (c:Int) (u:Tok) (prog:Program) (w:World) (E:Value->Shared->Prop) (Q:Value->Shared->Prop) (h:Q (.bool (decide (a < c))) s) :
  wpAny (model prog w) A (richCompare .Lt (.int a t) (.int c u)) Q E s:=
 (PyProof.Rows.lt_int h:wpAny (model prog w) A (compareOp .Lt (.int a t) (.int c u)) Q E s)
section
open PySem.SeqAt
open PySem.AutoSeq1 (wpAny_loadPart')
open PySem.MeetsSeq PySem.MeetsSeq2 PySem.MeetsSeq3
end
section
variable {prog:Program} {w:World} {A:Around} {E:Value->Shared->Prop} {s:Shared}
theorem cat_tup {t b:Addr} {vs ws:List Value} {Q:Value->Shared->Prop} (ht:IsTup s.heap t vs.toArray) (hb:IsTup s.heap b ws.toArray) (hv:vs≠[])
  (h1:ws=[]->Q (.ref t) s) (h2:ws≠[]->Q (.ref s.heap.objs.size) { s with heap:=s.heap.push { cls:=.type "tuple",data:=.seq (vs++ws).toArray } })
  (hsz:vs.length+ws.length<=sizeLine):wpAny (model prog w) A (binaryOp .Add (.ref t) (.ref b)) Q E s:=by
 obtain ⟨⟨cls,dd,data,sl⟩,ho,hc,n,hd⟩:=id ht
 obtain ⟨⟨cls2,dd2,data2,sl2⟩,ho2,hc2,n2,hd2⟩:=id hb
 simp only at hc hd hc2 hd2
 subst hc hd hc2 hd2
 have e:vs.toArray++ws.toArray=(vs++ws).toArray:=by simp
 by_cases hw:ws=[]
 ·exact concat_meets ⟨_,ho,rfl⟩ ⟨_,ho2,rfl⟩ noFill_tuple_add seq_tuple_add dG dv (db _ _)
   (tuple_addW1 t b vs.toArray ws.toArray n n2 dd dd2 sl sl2 (by simpa using hv) (by simp [hw])) ⟨ho,ho2,h1 hw⟩
 ·refine concat_meets ⟨_,ho,rfl⟩ ⟨_,ho2,rfl⟩ noFill_tuple_add seq_tuple_add dG dv (db _ _)
   (tuple_addW2 t b vs.toArray ws.toArray n n2 dd dd2 sl sl2 (by simpa using hv) (by simpa using hw) (by rw [aq,aq]; exact hsz)) ⟨ho,ho2,?_⟩
  rw [e]
  exact h2 hw
theorem slicePart_ {v:Value} {o:Option Int} {Q:Option Int->Shared->Prop} (p:IsPart v o) (h:Q o s):wpAny (model prog w) A (Builtin.Slice.slicePartIndex v) Q E s:=by
 cases p with
 | none=>exact slicePart_none h
 | int i t=>exact slicePart_int h
end
end HT
namespace L2
open PySem PySem.Spec PyProof.Rows
abbrev TO:=St->Hp->(Option Int->Hp->Prop)->Prop
def PO (X:Cx) (e:Option Expr) (t:TO):Prop:=
 ∀ (pins:List (Addr×Obj)) (s:Shared) (σ:St) (H:Hp) (Q:Option Int->Hp->Prop),Inv X pins σ H s->t σ H Q ->
  wpAny (model X.prog X.w) X.A (evalPart e X.env) (fun u s'=>∃ o H',Inv X pins σ H' s'/\IsPart u o/\Q o H') X.xe s
def qbY:TO:=fun _ H Q=>Q none H
def qf4 (t:TE):TO:=fun σ H Q=>t σ H fun x H1=>∃ i,x=.int i/\Q (some i) H1
variable {X:Cx} {e:Expr} {pos:Pos} {xs:List V} {us:List Value}
section
variable {te:TE} {lo hi:Option Expr} {tl th:TO} {p2:Pos}
theorem qbZ:PO X none qbY:=by
 intro pins s σ H Q I h
 rw [evalPart_none]
 exact wpAny_pure ⟨none,H,I,.none,h⟩
theorem qb0 (h:PE X e te):PO X (some e) (qf4 te):=by
 intro pins s σ H Q I hw
 rw [evalPart_some]
 refine thn (h pins s σ H _ I hw) fun u s1 ⟨x,H1,I1,r1,q1⟩=>?_
 obtain ⟨i,rfl,q⟩:=q1
 obtain ⟨t,rfl⟩:=r1
 exact ⟨some i,H1,I1,.int i t,q⟩
def qf5 (K:Frag):R2:=fun x y H Q=>∃ a b xs ys,x=.ref a/\y=.ref b/\SqT K H a xs/\SqT K H b ys/\xs≠[]/\xs.length+ys.length<=sizeLine /\
 (ys=[]->Q (.ref a) H)/\(ys≠[]->∀ p,H p=none->Q (.ref p) (upd H p (.tup (xs++ys))))
theorem Vals.nil_iff (r:Vals xs us):us=[]↔xs=[]:=by
 cases r with
 | nil=>simp
 | cons _ _=>simp
theorem qb1:OpR X (binaryOp .Add) (qf5 X.K):=by
 intro pins s σ H x y v u Q I rx ry h
 obtain ⟨a,b,xs,ys,rfl,rfl,ha,hb,hx,hz,q1,q2⟩:=h
 cases rx
 cases ry
 obtain ⟨its,r1,p1,_⟩:=I.tuple ha
 obtain ⟨its2,r2,p2,_⟩:=I.tuple hb
 refine HT.cat_tup p1 p2 (fun z=>hx (r1.nil_iff.mp z)) (fun z=>⟨.ref a,H,I,rfl,q1 (r2.nil_iff.mp z)⟩) (fun z=>?_) (by rw [<-r1.length,<-r2.length]; exact hz)
 refine ⟨.ref s.heap.objs.size,_,I.laid (t':=s.toks) (o:=.tup (xs++ys)) (fun b ob q=>ae _ q) (ax _) ?_,rfl,q2 (fun w=>z (r2.nil_iff.mpr w)) _ (I.hok.fresh (ax _))⟩
 exact ⟨⟨by rw [ai]; exact hz,_,ao _ rfl,rfl⟩,_,r1.append r2,IsTup.new _ _⟩
end
noncomputable def ixN (n:Nat) (i:Int):Option Nat:=if 0<=i then (if i < n then some i.toNat else none) else if -(n:Int)<=i then some (i+n).toNat else none
variable {α:Type}
noncomputable def atI (xs:List α) (i:Int):Option α:=(ixN xs.length i).bind fun j=>xs[j]?
variable {n j:Nat} {i:Int}
theorem Yx (h:ixN n i=some j):seqIndex? i n=some j/\j < n/\-(n:Int)<=i/\i < n:=by
 unfold ixN at h
 by_cases h0:0<=i
 ·rw [if_pos h0] at h
  by_cases h1:i < n
  ·rw [if_pos h1] at h
   have e:i.toNat=j:=aT.inj h
   exact ⟨by rw [seqIndex_of h0 h1,e],by omega,by omega,h1⟩
  ·rw [if_neg h1] at h; cases h
 ·rw [if_neg h0] at h
  by_cases h1:-(n:Int)<=i
  ·rw [if_pos h1] at h
   have e:(i+n).toNat=j:=aT.inj h
   exact ⟨by rw [seqIndex_neg (by omega) h1,e],by omega,h1,by omega⟩
  ·rw [if_neg h1] at h; cases h
theorem KH {xs:List α} {v:α} (h:atI xs i=some v):∃ j,seqIndex? i xs.length=some j/\xs[j]?=some v/\j < xs.length/\-(xs.length:Int)<=i/\i < xs.length:=by
 unfold atI at h
 cases e:ixN xs.length i with
 | none=>rw [e] at h; cases h
 | some j=>
  rw [e] at h
  obtain ⟨h1,h2,h3,h4⟩:=Yx e
  exact ⟨j,h1,h,h2,h3,h4⟩
theorem vD {xs:List α} {v:α} (h:xs[j]?=some v):atI xs (j:Int)=some v:=by
 have hj:j < xs.length:=(aA.mp h).1
 have e:ixN xs.length (j:Int)=some j:=by
  unfold ixN
  rw [if_pos (by omega),if_pos (by omega)]; simp
 unfold atI; rw [e]; exact h
def KI (b:Expr):Prop:=∀ o i,subscripted b false o i=operate [o,i] (getItem o i)
def IxR (X:Cx) (r:R2):Prop:=
 ∀ (value slice:Expr) (pins:List (Addr×Obj)) (s:Shared) (σ:St) (H:Hp) (x y:V) (v u:Value) (Q:VK),Inv X pins σ H s->RelV x v->RelV y u->r x y H Q ->
  subscripted slice false v u=operate [v,u] (getItem v u)->wpAny (model X.prog X.w) X.A (subscriptTail value slice v u) (EP X pins σ Q) X.xe s
def MtR (X:Cx) (id:String) (r:V->List V->Hp->VK->Prop):Prop:=
 ∀ (pins:List (Addr×Obj)) (s:Shared) (σ:St) (H:Hp) (x:V) (xs:List V) (v:Value) (us:List Value) (Q:VK),Inv X pins σ H s->RelV x v->Vals xs us->r x xs H Q ->
  wpAny (model X.prog X.w) X.A (call (.builtin id) (v::us)) (EP X pins σ Q) X.xe s
variable {pins:List (Addr×Obj)} {σ:St} {H:Hp} {s:Shared} {p:Addr} {T:String}
section
variable {a b:Expr} {ta tb:TE}
theorem IxR.or {r r':R2} (h:IxR X r) (h':IxR X r'):IxR X (fun x y H Q=>r x y H Q\/r' x y H Q):=by
 intro value slice pins s σ H x y v u Q I rx ry q hs
 rcases q with q | q
 ·exact h value slice pins s σ H x y v u Q I rx ry q hs
 ·exact h' value slice pins s σ H x y v u Q I rx ry q hs
theorem qdT {r:R2} (hr:IxR X r) (ha:PE X a ta) (hb:PE X b tb) (hs:KI b):PE X (.Subscript a b pos) (tOp r ta tb):=by
 refine ⟨?_⟩
 intro pins s σ H Q I h
 exact Subscript_ (qfT ha hb I h fun v u s2 x y H2 I2 rx ry q=>hr a b pins s2 σ H2 x y v u Q I2 rx ry q (hs _ _))
def qgP (K:Frag):R2:=fun x y H Q=>∃ p xs i v,x=.ref p/\y=.int i/\SqL K H p xs/\atI xs i=some v/\Q v H
def qgQ (K:Frag):R2:=fun x y H Q=>∃ p xs i v,x=.ref p/\y=.int i/\SqT K H p xs/\atI xs i=some v/\Q v H
def qgR:R2:=fun x y H Q=>∃ z i c,x=.str z/\y=.int i/\z.length<=sizeLine/\atI z.cps.toList i=some c/\Q (.str ⟨#[c]⟩) H
theorem ix_list:IxR X (qgP X.K):=by
 intro value slice pins s σ H x y v u Q I rx ry h hs
 obtain ⟨p,xs,i,z,rfl,rfl,hq,he,q⟩:=h
 cases rx
 obtain ⟨t,rfl⟩:=ry
 obtain ⟨its,r,pl,hz⟩:=I.list hq
 obtain ⟨j,h1,h2,h3,h4,h5⟩:=KH he
 obtain ⟨w,ew,rw'⟩:=r.get h2
 have hl:=r.length
 have hn:=gB
 have fin:EP X pins σ Q w s:=⟨z,H,I,rw',q⟩
 by_cases h0:0<=i
 ·have hj:i.toNat=j:=by
   rw [seqIndex_of h0 h5] at h1
   exact aT.inj h1
  exact item_listR pl.isList h0 (by omega) (by rw [hj]; simpa using ew) fin hs
 ·have hj:(i+(its.toArray.size:Int)).toNat=j:=by
   rw [seqIndex_neg (by omega) h4] at h1
   rw [aq,<-hl]
   exact aT.inj h1
  exact subscriptTail_builtinR (x:=w) pl.isList.typeIs slot_list_getitem.lookup
   (wpAny_getItem_list_neg (Q:=fun r s'=>r=w/\EP X pins σ Q r s') pl.isList (by omega) (by rw [aq] <;> omega) (by omega) (by rw [hj]; simpa using ew) ⟨rfl,fin⟩) hs
theorem ix_tup:IxR X (qgQ X.K):=by
 intro value slice pins s σ H x y v u Q I rx ry h hs
 obtain ⟨p,xs,i,z,rfl,rfl,hq,he,q⟩:=h
 cases rx
 obtain ⟨t,rfl⟩:=ry
 obtain ⟨its,r,pl,hz⟩:=I.tuple hq
 obtain ⟨j,h1,h2,h3,h4,h5⟩:=KH he
 obtain ⟨w,ew,rw'⟩:=r.get h2
 have hl:=r.length
 have hn:=gB
 have fin:EP X pins σ Q w s:=⟨z,H,I,rw',q⟩
 exact subscriptTail_builtinR (x:=w) pl.typeIs slot_tuple_getitem.lookup
  (getItem_tuple (j:=j) (Q:=fun r s'=>r=w/\EP X pins σ Q r s') pl (by omega) (by omega) (by rw [aq,<-hl]; exact h1) (by simpa using ew) ⟨rfl,fin⟩) hs
theorem qdU:IxR X qgR:=by
 intro value slice pins s σ H x y v u Q I rx ry h hs
 obtain ⟨z,i,c,rfl,rfl,hz,he,q⟩:=h
 obtain ⟨t,rfl⟩:=rx
 obtain ⟨t',rfl⟩:=ry
 obtain ⟨j,h1,h2,h3,h4,h5⟩:=KH he
 have hl:z.cps.toList.length=z.length:=by simp [fC]
 rw [hl] at h1 h4 h5
 have hn:=gB
 exact tail_any (typeIs_str s z t) slot_str_getitem.lookup (getItem_str (c:=c) (by
  have e1:decide (i < -(2 ^ 63:Int))=false:=decide_eq_false (by omega)
  have e2:decide (i ≥ 2 ^ 63)=false:=decide_eq_false (by omega)
  rw [e1,e2,Bool.or_false]) (by rw [h1]; simpa using h2) ⟨.str ⟨#[c]⟩,H,I.tok _,⟨_,rfl⟩,q⟩) hs
def rIx (K:Frag):R2:=fun x y H Q=>qgP K x y H Q\/qgQ K x y H Q\/qgR x y H Q
theorem qdV:IxR X (rIx X.K):=ix_list.or (ix_tup.or qdU)
theorem Uy (its:List Value) (n j:Nat) (u:Value):cE (·.setIfInBounds j u) { cls:=.type "list",data:=.seq its.toArray n }={ cls:=.type "list",data:=.seq (its.set j u).toArray n }:=by
 simp [cE]
theorem Inv.lst (I:Inv X pins σ H s) (h:H p=some (.lst xs)) :
  ∃ (its:List Value) (n:Nat),Vals xs its/\s.heap.get? p=some { cls:=.type "list",data:=.seq its.toArray n }/\xs.length<=sizeLine:=by
 obtain ⟨z,its,n,r,e⟩:=I.hok p _ h
 exact ⟨its,n,r,e,z⟩
theorem Inv.lstUpd {ys:List V} {its its':List Value} {n n':Nat} {f:Obj->Obj} (I:Inv X pins σ H s) (h:H p=some (.lst xs))
  (ho:s.heap.get? p=some { cls:=.type "list",data:=.seq its.toArray n }) (hf:f { cls:=.type "list",data:=.seq its.toArray n }={ cls:=.type "list",data:=.seq its'.toArray n' }) (r:Vals ys its') (hz:ys.length<=sizeLine) (t:Nat) :
  Inv X pins σ (upd H p (.lst ys)) { s with heap:=s.heap.update p f,toks:=t }:=by
 have e:(s.heap.update p f).get? p=some { cls:=.type "list",data:=.seq its'.toArray n' }:=by
  rw [aN f ho (by rw [hf] <;> rfl),hf]
 refine I.write (x:=p) (e:=p) (by rw [h]; trivial) (.inl rfl) (fun b u hb q=>(aS _ _ (bv hb)).trans q) ⟨_,e⟩ ?_
 exact ⟨hz,its',n',r,e⟩
def qf6:V->V->V->Hp->(Hp->Prop)->Prop:=fun o i v H Q=>∃ p xs k j,o=.ref p/\i=.int k/\H p=some (.lst xs)/\ixN xs.length k=some j/\Q (upd H p (.lst (xs.set j v)))
theorem Gm:qgM X qf6:=by
 intro pins s σ H o i v ov iv u Q I ro ri rv h
 obtain ⟨p,xs,k,j,rfl,rfl,hp,hj,q⟩:=h
 cases ro
 obtain ⟨t,rfl⟩:=ri
 obtain ⟨its,n,r,ho,hz⟩:=I.lst hp
 obtain ⟨h1,h2,h3,h4⟩:=Yx hj
 have hl:=r.length
 have hn:=gB
 have I':Inv X pins σ (upd H p (.lst (xs.set j v))) { s with heap:=s.heap.update p (cE (·.setIfInBounds j u)) }:=
  I.lstUpd hp ho (Uy its n j u) (r.set rv j) (by rw [cy]; exact hz) s.toks
 by_cases h0:0<=k
 ·have hk:k.toNat=j:=by
   rw [seqIndex_of h0 h4] at h1
   exact aT.inj h1
  exact PySem.W.ki_setAt ho h0 (by omega) (by rw [aq,<-hl]; exact h4) (by rw [hk]; exact ⟨_,I',q⟩)
 ·have hk:(k+(its.toArray.size:Int)).toNat=j:=by
   rw [seqIndex_neg (by omega) h3] at h1
   rw [aq,<-hl]
   exact aT.inj h1
  exact PySem.W.ki_setBack ho (by omega) (by rw [aq,<-hl]; exact h3) (by omega) (by rw [hk]; exact ⟨_,I',q⟩)
theorem xr:uw X (.type "list") (fun xs H Q=>∃ p ys,xs=[.ref p]/\(SqL X.K H p ys\/SqT X.K H p ys)/\∀ l,H l=none->Q (.ref l) (upd H l (.lst ys))):=by
 intro pins s σ H xs us Q I r h
 obtain ⟨p,ys,rfl,hq,q⟩:=h
 obtain ⟨u,rfl,rx⟩:=uG r
 cases rx
 have fin:∀ (its:List Value),Vals ys its->ys.length<=sizeLine->∀ (h':Heap) (c':Nat),(∀ b o',s.heap.get? b=some o'->h'.get? b=some o') ->
   h'.get? s.heap.objs.size=some { cls:=.type "list",dict:=none,data:=.seq its.toArray c',slots:=#[] }->EP X pins σ Q (.ref s.heap.objs.size) { s with heap:=h' }:=fun its r' hz h' c' kp e=>
  ⟨.ref s.heap.objs.size,_,I.laid (t':=s.toks) kp (ax _) (show ObjOk X.prog X.w _ h' _ (.lst ys) from ⟨hz,its,c',r',e⟩),rfl,q _ (I.hok.fresh (ax _))⟩
 rcases hq with hq | hq
 ·obtain ⟨its,r',pl,hz⟩:=I.list hq
  have hlen:=r'.length
  obtain ⟨o,ho,hc,n,hd⟩:=pl.isList
  exact call_list_seq p (.inl rfl) ho hc hd (fun h' c' kp e=>fin its r' hz h' c' kp e) (by simp only [aq] <;> omega)
 ·obtain ⟨its,r',pl,hz⟩:=I.tuple hq
  have hlen:=r'.length
  obtain ⟨o,ho,hc,n,hd⟩:=pl
  exact call_list_seq p (.inr rfl) ho hc hd (fun h' c' kp e=>fin its r' hz h' c' kp e) (by simp only [aq] <;> omega)
theorem ya:uw X (.type "tuple") (fun xs H Q=>∃ p ys,xs=[.ref p]/\((SqL X.K H p ys/\∀ l,H l=none->Q (.ref l) (upd H l (.tup ys)))\/(SqT X.K H p ys/\Q (.ref p) H))):=by
 intro pins s σ H xs us Q I r h
 obtain ⟨p,ys,rfl,h⟩:=h
 obtain ⟨u,rfl,rx⟩:=uG r
 cases rx
 rcases h with ⟨hq,q⟩ | ⟨hq,q⟩
 ·obtain ⟨its,r',pl,hz⟩:=I.list hq
  have hlen:=r'.length
  refine call_tuple_list pl.isList (fun h' kp=>?_) (by simp only [aq] <;> omega)
  have I1:Inv X pins σ H { s with heap:=h' }:=I.kept (t':=s.toks) kp
  have I2:Inv X pins σ (upd H h'.objs.size (.tup ys)) { s with heap:=h'.push { cls:=.type "tuple",data:=.seq its.toArray } }:=
   I1.laid (t':=s.toks) (fun b o e=>ae _ e) (ax _) (show ObjOk X.prog X.w _ _ _ (.tup ys) from ⟨⟨hz,_,ao _ rfl,rfl⟩,its,r',IsTup.new _ _⟩)
  exact ⟨.ref h'.objs.size,_,I2,rfl,q _ (I1.hok.fresh (ax _))⟩
 ·obtain ⟨its,r',pl,hz⟩:=I.tuple hq
  exact call_tuple_same pl ⟨.ref p,H,I,rfl,q⟩
def tyV (K:Frag) (T:String) (x:V) (H:Hp):Prop:=match x with
 | .str _=>T = "str"
 | .int _=>T = "int"
 | .ref p=>(T = "list"/\∃ xs,SqL K H p xs)\/(T = "tuple"/\∃ o,K.lookup p=some o/\o.cls=.type "tuple"/\o.dict=none) \/
   (T = "dict"/\((∃ kvs,H p=some (.dK kvs))\/∃ kvs,H p=some (.dT kvs)))\/(T = "set"/\∃ S n,H p=some (.set S n))
 | _=>False
theorem qdW {x:V} {v:Value} (I:Inv X pins σ H s) (r:RelV x v) (ty:tyV X.K T x H) :
  s.TypeIs v T/\∀ a,v=.ref a->∃ ob,s.heap.get? a=some ob/\ob.dict=none:=by
 cases x with
 | str z=>
  obtain ⟨t,rfl⟩:=r
  cases (show T = "str" from ty)
  exact ⟨typeIs_str s z t,fun _ e=>nomatch e⟩
 | int i=>
  obtain ⟨t,rfl⟩:=r
  cases (show T = "int" from ty)
  exact ⟨typeIs_int s i t,fun _ e=>nomatch e⟩
 | ref p=>
  cases r
  rcases ty with ⟨rfl,xs,hq⟩ | ⟨rfl,o,hk,hc,hd⟩ | ⟨rfl,hk⟩ | ⟨rfl,S,n,hk⟩
  ·obtain ⟨its,_,pl,_⟩:=I.list hq
   refine ⟨pl.isList.typeIs,fun a e=>?_⟩
   cases e
   obtain ⟨o,n,e,c,hd,_⟩:=pl
   exact ⟨o,e,hd⟩
  ·refine ⟨⟨o,I.kIn p o hk,hc⟩,fun a e=>?_⟩
   cases e
   exact ⟨o,I.kIn _ o hk,hd⟩
  ·have z:∃ o,s.heap.get? p=some o/\o.ExactDict:=by
    rcases hk with ⟨kvs,hk⟩ | ⟨kvs,hk⟩
    ·obtain ⟨_,_,_,_,o,_,_,e,ex,_⟩:=I.hok p _ hk
     exact ⟨o,e,ex⟩
    ·obtain ⟨_,_,_,_,o,_,_,e,ex,_⟩:=I.hok p _ hk
     exact ⟨o,e,ex⟩
   obtain ⟨o,e,ex⟩:=z
   refine ⟨⟨o,e,ex.1⟩,fun a e2=>?_⟩
   cases e2
   exact ⟨o,e,ex.2.1⟩
  ·obtain ⟨o,_,_,_,e,ex,_⟩:=I.hok p _ hk
   refine ⟨⟨o,e,ex.1⟩,fun a e2=>?_⟩
   cases e2
   exact ⟨o,e,ex.2.1⟩
 | _=>exact cX ty
def tBM (K:Frag) (T:String) (r:V->List V->Hp->VK->Prop) (to:TE) (t:TA):TE:=fun σ H Q=>to σ H fun x H1=>tyV K T x H1/\t σ H1 fun xs H2=>r x xs H2 Q
variable {o:Expr} {es:List Expr} {to:TE} {t:TA} {name:Str} {apos cpos:Pos} {id:String} {r:V->List V->Hp->VK->Prop}
theorem Gn (pa:PlainAttrs T) (slot:Slot T name id) (hty:typeOf (.builtin id)=pure (.type "method_descriptor")) (hm:MtR X id r) (ho:PE X o to) (ha:PA X (e::es) t)
  (hbase:attributeBase o name X.env (eval o X.env)=eval o X.env:=by rfl)
  (hfew:((backTo cpos (starEach (e::es) X.env)).all (fun x=>!x.1)&&(backToKw cpos (keywordEach [] X.env)).all (fun x=>x.1.isSome)
   && decide ((e::es).length+([]:List Keyword).length+(if ([]:List Keyword).isEmpty then 0 else 1) < 30))=true:=by rfl)
  (hline:(apos.endLine == cpos.line)=true:=by rfl) (hs:starEach (e::es) X.env=(false,eval e X.env)::starEach es X.env:=by rfl) (hplain:(backTo cpos (starEach es X.env)).any (·.1)=false:=by rfl) :
  PE X (.Call (.Attribute o name apos) (e::es) [] cpos) (tBM X.K T r to t):=by
 refine ⟨?_⟩
 intro pins s σ H Q I h
 refine wpAny_Call_method_late hbase hfew hline rfl (thn (ho pins s σ H _ I h) fun v s1 ⟨x,H1,I1,r1,ty,q1⟩=>?_)
 obtain ⟨h1,h2⟩:=qdW I1 r1 ty
 refine ⟨T,id,pa,slot,hty,h1,h2,?_⟩
 have hA:=ha cpos pins s1 σ H1 _ I1 q1
 rw [hs] at hA ⊢
 refine Calls.callWith_builtin (by show (false||(backTo cpos (starEach es X.env)).any (·.1))=false; rw [hplain] <;> rfl) (dX ?_)
 exact thn hA fun us s2 ⟨vs,H2,I2,r2,q2⟩=>hm pins s2 σ H2 x vs v us Q I2 r1 r2 q2
end
def MtM (X:Cx) (id:String) (r:V->List V->Hp->VK->Prop):Prop:=
 ∀ (pins:List (Addr×Obj)) (s:Shared) (σ:St) (H:Hp) (x:V) (xs:List V) (v:Value) (us:List Value) (Q:VK),Inv X pins σ H s->RelV x v->Vals xs us->r x xs H Q ->
  wpAny (model X.prog X.w) X.A (call (.builtin id) (v::us)) (EP X pins σ Q) X.xe s
theorem Vals.one:∀ {x:V} {us:List Value},Vals [x] us->∃ u,us=[u]/\RelV x u
 | _,_,.cons r .nil=>⟨_,rfl,r⟩
theorem Vals.two:∀ {x y:V} {us:List Value},Vals [x,y] us->∃ u v,us=[u,v]/\RelV x u/\RelV y v
 | _,_,_,.cons r (.cons q .nil)=>⟨_,_,rfl,r,q⟩
theorem Vals.zero:∀ {us:List Value},Vals [] us->us=[]
 | _,.nil=>rfl
theorem Vals.dropLast (h:Vals xs us):Vals xs.dropLast us.dropLast:=by
 induction h with
 | nil=>exact .nil
 | cons r t ih=>
  cases t with
  | nil=>exact .nil
  | cons q t'=>exact .cons r ih
theorem Vals.eraseIdx:∀ {xs:List V} {us:List Value} (i:Nat),Vals xs us->Vals (xs.eraseIdx i) (us.eraseIdx i)
 | _,_,_,.nil=>.nil
 | _,_,0,.cons _ t=>t
 | _,_,i+1,.cons r t=>.cons r (Vals.eraseIdx i t)
theorem Vals.reverse (h:Vals xs us):Vals xs.reverse us.reverse:=by
 induction h with
 | nil=>exact .nil
 | cons r t ih=>rw [cT,cT]; exact Vals.append ih (.cons r .nil)
theorem Vals.rep (h:Vals xs us):∀ k:Nat,Vals (cY k xs).flatten (cY k us).flatten
 | 0=>.nil
 | k+1=>by
  rw [List.replicate_succ,List.replicate_succ,List.flatten_cons,List.flatten_cons]
  exact Vals.append h (Vals.rep h k)
theorem Jn:∀ (l:List α) (i:Nat),(l.eraseIdx i).length<=l.length
 | [],_=>ax _
 | _::_,0=>eE _
 | _::r,i+1=>Nat.succ_le_succ (Jn r i)
section
variable {l b:Addr} {ys zs:List V}
theorem Inv.lset {its its':List Value} {n:Nat} {f:Array Value->Array Value} {t':Nat} (I:Inv X pins σ H s) (hH:H l=some (.lst xs))
  (e:s.heap.get? l=some { cls:=.type "list",data:=.seq its.toArray n }) (hf:f its.toArray=its'.toArray) (hv:Vals ys its') (hz:ys.length<=sizeLine) :
  Inv X pins σ (upd H l (.lst ys)) { s with heap:=s.heap.update l (cE f),toks:=t' }:=by
 have q:=PySem.IsL.update e f
 rw [hf] at q
 refine I.write (x:=l) (e:=l) (by rw [hH]; exact trivial) (.inl rfl) (fun b' u hb hu=>(aS s.heap (cE f) (bv hb)).trans hu) ⟨_,q⟩ ?_
 exact ⟨hz,its',_,hv,q⟩
theorem Inv.lnew {its:List Value} {t':Nat} (I:Inv X pins σ H s) (hv:Vals ys its) (hz:ys.length<=sizeLine) :
  Inv X pins σ (upd H s.heap.objs.size (.lst ys)) { s with heap:=s.heap.push { cls:=.type "list",data:=.seq its.toArray },toks:=t' }:=
 I.laid (fun _ _ q=>ae _ q) (ax _) ⟨hz,its,0,hv,ao _ rfl⟩
theorem Inv.fresh (I:Inv X pins σ H s):H s.heap.objs.size=none:=I.hok.fresh (ax _)
theorem Inv.lstM (I:Inv X pins σ H s) (hH:H l=some (.lst xs)):xs.length<=sizeLine/\∃ (its:List Value) (n:Nat),Vals xs its/\xs.length=its.length/\s.heap.get? l=some { cls:=.type "list",data:=.seq its.toArray n }:=by
 obtain ⟨z,its,n,r,e⟩:=I.hok l _ hH
 exact ⟨z,its,n,r,r.length,e⟩
theorem Go (h:n<=sizeLine):de n=false:=by
 unfold de
 exact decide_eq_false (by omega)
end
section
def KJ:V->List V->Hp->VK->Prop:=fun x vs H Q=>∃ l xs y,x=.ref l/\vs=[y]/\H l=some (.lst xs)/\xs.length < sizeLine/\Q .non (upd H l (.lst (xs++[y])))
theorem Jo:MtM X "list.append" KJ:=by
 intro pins s σ H x vs v us Q I rx rv h
 obtain ⟨l,xs,y,rfl,rfl,hH,hz,q⟩:=h
 cases rx
 obtain ⟨u,rfl,ru⟩:=rv.one
 obtain ⟨z,its,n,r,hl,e⟩:=I.lstM hH
 refine call_meets F.slot_list_append ⟨_,e,rfl⟩ F.entry_list_append (F.args_list_append_2 _ _) (PySem.list_append l its.toArray n u (by rw [aq]; omega)) ⟨e,?_⟩
 refine ⟨.non,_,I.lset (its':=its++[u]) hH e (by simp) (r.append (.cons ru .nil)) ?_,rfl,q⟩
 rw [ai,List.length_singleton]
 omega
def qb2:V->List V->Hp->VK->Prop:=fun x vs H Q=>∃ l b xs zs,x=.ref l/\vs=[.ref b]/\H l=some (.lst xs)/\H b=some (.lst zs)/\xs.length+zs.length<=sizeLine/\Q .non (upd H l (.lst (xs++zs)))
theorem Yy:MtM X "list.extend" qb2:=by
 intro pins s σ H x vs v us Q I rx rv h
 obtain ⟨l,b,xs,zs,rfl,rfl,hH,hB,hz,q⟩:=h
 cases rx
 obtain ⟨u,rfl,ru⟩:=rv.one
 cases ru
 obtain ⟨z,its,n,r,hl,e⟩:=I.lstM hH
 obtain ⟨z2,its2,n2,r2,hl2,e2⟩:=I.lstM hB
 have hsz:its.toArray.size+its2.toArray.size<=sizeLine:=by rw [aq,aq]; omega
 have hlong:¬(!its.toArray.isEmpty&&de (its.toArray.size+its2.toArray.size))=true:=by
  rw [Go hsz,Bool.and_false]
  exact bf
 refine call_meets F.slot_list_extend ⟨_,e,rfl⟩ F.entry_list_extend (F.args_list_extend_2 _ _)
  (AutoSeq1.list_extend_list_list_0 l its.toArray n b its2.toArray n2 hlong (by rw [aq]; omega) (by omega)) ⟨e,e2,?_⟩
 refine ⟨.non,_,I.lset (its':=its++its2) hH e (by simp) (r.append r2) ?_,rfl,q⟩
 rw [ai]
 omega
def qdX:V->List V->Hp->VK->Prop:=fun x vs H Q=>∃ l xs i k y,x=.ref l/\vs=[.int i]/\H l=some (.lst xs)/\-(2 ^ 63)<=i/\i < 2 ^ 63/\seqIndex? i xs.length=some k/\xs[k]?=some y/\Q y (upd H l (.lst (xs.eraseIdx k)))
theorem Gp:MtM X "list.pop" qdX:=by
 intro pins s σ H x vs v us Q I rx rv h
 obtain ⟨l,xs,i,k,y,rfl,rfl,hH,h1,h2,hk,hy,q⟩:=h
 cases rx
 obtain ⟨u,rfl,ru⟩:=rv.one
 obtain ⟨t,rfl⟩:=ru
 obtain ⟨z,its,n,r,hl,e⟩:=I.lstM hH
 obtain ⟨w,hw,rw'⟩:=r.get hy
 refine call_meets F.slot_list_pop ⟨_,e,rfl⟩ F.entry_list_pop (F.args_list_pop_2 _ _)
  (MeetsSeq.list_pop_at l its.toArray n i t k w (fitsIndex_both h1 h2) (by rw [aq,<-hl]; exact hk) (by rw [<-bj]; exact hw) (by rw [aq]; omega)) ⟨e,?_⟩
 refine ⟨y,_,I.lset (its':=its.eraseIdx k) hH e ?_ (r.eraseIdx k) ?_,rw',q⟩
 ·show its.toArray.eraseIdxIfInBounds k=(its.eraseIdx k).toArray
  rw [List.eraseIdxIfInBounds_toArray]
 ·have:=Jn xs k
  omega
end
end L2
namespace Att
open PySem PySem.W PySem.Calls PyProof.Rows
theorem zh {P:Params} {h:Heap}:∀ (ns:List Int) (vs:List Value),WellAll P h vs (ns.map WData.int)->IntsAre vs ns:=by
 intro ns
 induction ns with
 | nil=>
  intro vs w
  rw [ck] at w
  cases w
  exact .nil
 | cons n ns ih=>
  intro vs w
  rw [aC] at w
  cases w with
  | cons a b=>
   cases a
   exact .cons _ _ (ih _ b)
theorem Yz {l:OpenLaw} {n:Nat} (hn:l.most=some n) {P:Params} {h:Heap} {args:List WData} {vals:List Value}
  (hpre:l.row.toRowW.claim.pre args=true) (hwl:WellAll P h vals args) :
  ∃ a vs ns,vals=[cf a]/\args=[WData.list (ns.map WData.int)]/\h.get? a=some { cls:=.type "list",data:=.seq vs.toArray }/\IntsAre vs ns/\ns.length<=n:=by
 have hsh:WShape.hasAll [] args [.list .int]=true:=(pre_splitW hpre).1
 have hc:l.pre.holds [] { args:=args }=true:=(pre_splitW hpre).2
 obtain ⟨d,r,rfl,h1,h2⟩:=hasAllW_cons hsh
 obtain rfl:=hasAllW_nil h2
 obtain ⟨xs,rfl,h3⟩:=hasW_list h1
 obtain ⟨ns,rfl⟩:=items_int h3
 have hlen:ns.length<=n:=by
  unfold OpenLaw.pre at hc
  have h4:(WTm.not (.lt (.lit (.int (n:Int))) (.len (.arg 0)))).holds [] { args:=[.list (ns.map .int)] }=true:=by
   have h4:=(holds_andW hc).1
   rw [hn] at h4
   exact h4
  have h5:=condW_of h4 (w_not (w_lt w_lit (w_len_list (w_arg rfl))))
  rw [au] at h5
  refine Nat.le_of_not_lt fun q=>?_
  have q':(n:Int) < ((ns.length:Nat):Int):=by omega
  first
   | (rw [decide_eq_true q'] at h5; exact absurd h5 (by decide))
   | (simp at h5; omega)
 cases hwl with
 | cons w1 w2=>
  cases w2
  cases w1 with
  | list ho hall=>exact ⟨_,_,ns,rfl,rfl,ho,zh ns _ hall,hlen⟩
theorem YA (l:OpenLaw) (args:List WData):l.row.toRowW.claim.post args (.bool true) args=true:=
 postW_of (r:=l.row.toRowW) (X:=(true == true))
  (show WShape.has [] (.bool true) .bool=true by first | rfl | decide | simp [WShape.has,WShape.arms,WShape.armsAll])
  (show (WTm.eq .res (.lit (.bool true))).value [] { args:=args,res:=some (.bool true),after:=args }=some (.bool (true == true)) from w_eq_bool (w_res rfl) w_lit) rfl
theorem attach_call {l:OpenLaw} {n:Nat} {q:Program} {loose:List Str} {XP:(Str->Option Value)->Heap->Prop} {YP:World->Heap->Prop} {d:DefRec}
  (hn:l.most=some n) (hdf:d.params.defaults=[])
  (call:∀ (w:World) (s₀ s₁:Shared) (mg mb:Str->Option Value) (fa:Addr) (o:Obj) (pm cd doc:Value) (a:Addr) (vs:List Value) (ns:List Int),
   Ground q loose [] XP w s₀ mg mb s₁.heap->YP w s₁.heap ->
   s₁.heap.get? fa=some o->o.data=.func (docDef d.name d.params d.body d.scope pm cd doc)->s₁.heap.CodeRec cd d.name->mg d.name=some (.ref fa) ->
   s₁.heap.get? a=some { cls:=.type "list",data:=.seq vs.toArray }->IntsAre vs ns->ns.length<=n->s₁.gens=#[] ->
   codeAny (model l.prog w) callerA (.call (.ref fa) ⟨[.ref a],[]⟩) (fun r s'=>r=.ok (.ret (.bool true))/\OldK s₁.heap s'.heap/\s'.os=s₁.os/\AllBare s'.gens) s₁) :
  WalkO q loose XP YP l.row.toRowW d [] (fun f vs=>fK f vs):=by
 intro w s₀ s₁ mg mb G Y fa o pm cd doc dV kV ho hd hcd hD hmg hg args vals as hpre hlay hrd hwl hlo
 obtain rfl:dV=.none:=Dflts.none hD hdf
 obtain rfl:kV=.none:=Dflts.noKw hD
 obtain ⟨a,vs,ns,rfl,rfl,hobj,hints,hlen⟩:=Yz hn hpre hwl
 refine enter_call (codeAny_mono (call w s₀ s₁ mg mb fa o pm cd doc a vs ns G Y ho (fd_plain hd) hcd hmg hobj hints hlen hg) fun r s' hq=>?_)
 obtain ⟨rfl,h2,h3,h4⟩:=hq
 exact ⟨.inl ⟨.bool true,.bool true,[],rfl,fun _=>rfl,.bool true,YA l _,fun _=>⟨eF,fun _ hm=>(nomatch hm)⟩⟩,h2,h3,h4⟩
end Att
namespace L2
open PySem PySem.Spec PyProof.Rows
theorem Jp:∀ {vs:List Value} {ns:List Int},IntsAre vs ns->Vals (ns.map V.int) vs
 | _,_,.nil=>.nil
 | _,_,.cons n t h=>.cons ⟨t,rfl⟩ (Jp h)
def qf7 (H:Hp):Prop:=∀ b,H b=none\/∃ o xs,H b=some (.frz o (.lst xs))
theorem Gq {P:Program} {w:World} {K:Frag} {mg mb:Str->Option Value} {CX:CXT} {k:Nat} {fa a:Addr} {fd:FuncData} {x:Str} {sp:Sp} {s₁:Shared} {vs:List Value} {ns:List Int}
  (KX:K.In s₁.heap) (hns:s₁.heap.Ns mainGlobals mg) (hb:s₁.heap.Ns builtinsNs mb) (hbb:∀ x:Str,x ≠ "__name__"->mb x=bootBuiltins x) (hlim:s₁.heap.NoLimit) (hg:s₁.gens=#[])
  (ha:s₁.heap.get? a=some { cls:=.type "list",data:=.seq vs.toArray }) (hi:IntsAre vs ns) (hl:ns.length<=sizeLine) (hr:Room k callerA)
  (F:∀ base:Heap,K.In base->base.Ns mainGlobals mg->FnOk P w K mg base CX k fa fd [x] sp) (hbind:∀ (s:Shared) (u:Value),BindsTo s fd ⟨[u],[]⟩ [(x,u)])
  (hsp:∀ H:Hp,qf7 H->SqL K H a (ns.map V.int)->sp [.ref a] H (fun v _=>v=.bl true) fun _ _ _=>False)
  (hCX:∀ H e s',CX [] H s₁ (fun _ _ _=>False) e s'->False) :
  codeAny (model P w) callerA (.call (.ref fa) ⟨[.ref a],[]⟩) (fun r s'=>r=.ok (.ret (.bool true))/\OldK s₁.heap s'.heap/\s'.os=s₁.os/\AllBare s'.gens) s₁:=by
 have rv:=Jp hi
 have lenV:=hi.length
 have core:∀ H:Hp,qf7 H->SqL K H a (ns.map V.int)->HOk P w H s₁.heap->(∀ b,H b≠none->b=a)->(H a≠none->K.lookup a=none) ->
   codeAny (model P w) callerA (.call (.ref fa) ⟨[.ref a],[]⟩) (fun r s'=>r=.ok (.ret (.bool true))/\OldK s₁.heap s'.heap/\s'.os=s₁.os/\AllBare s'.gens) s₁:=by
  intro H hO hS hok hA hK
  have base_of:∀ {b:Addr} {o:Obj},s₁.heap.get? b=some o->H b=none->(Ga s₁.heap H).get? b=some o:=fun e n=>Gb e n
  have noA:∀ {b:Addr} {o:Obj} {es:Array DictEntry} {ep:Nat},s₁.heap.get? b=some o->o.data=.dict es ep->H b=none:=fun {b o es ep} e d=>by
   cases q:H b with
   | none=>rfl
   | some u=>
    have e':b=a:=hA b (by rw [q]; simp)
    subst e'
    rw [ha] at e; cases e
    have d':Data.seq vs.toArray _=Data.dict es ep:=d
    cases d'
  have nsK:∀ {b:Addr} {m:Str->Option Value},s₁.heap.Ns b m->(Ga s₁.heap H).Ns b m:=fun {b m} ⟨o,es,ep,e,d,r⟩=>⟨o,es,ep,base_of e (noA e d),d,r⟩
  have hKb:K.In (Ga s₁.heap H):=fun b o e=>base_of (KX b o e) (by
   cases q:H b with
   | none=>rfl
   | some u=>
    have e':b=a:=hA b (by rw [q]; simp)
    subst e'
    rw [hK (by rw [q]; simp)] at e; cases e)
  have hM:Mod K mg (Ga s₁.heap H):=⟨hKb,nsK hns,⟨mb,nsK hb,hbb⟩,let ⟨mc,h1,h2⟩:=hlim; ⟨mc,nsK h1,h2⟩⟩
  have e0:Env0 P w K mg (Ga s₁.heap H) callerA [] s₁ H:=⟨rfl,hM,fun b o e=>qbH e,eh (Ym _ _),trivial,fun b hb=>absurd (show b∈([]:List Addr) from hb) (by simp),hok,.of_eq hg⟩
  refine codeAny_mono ((F _ hKb (nsK hns)).run callerA [] s₁ H ⟨[.ref a],[]⟩ [.ref a] [.ref a] _ _ hr e0 (hbind s₁ (.ref a)) (.cons rfl .nil) (hsp H hO hS)) fun r s' h=>?_
  cases r with
  | error e=>exact (hCX H e s' h).elim
  | ok fl=>
   cases fl with
   | next=>exact cX h
   | brk=>exact cX h
   | cont=>exact cX h
   | ret u=>
    obtain ⟨v,H',os,bare,un,hok',r',q⟩:=h
    have q':v=.bl true:=q
    subst q'
    obtain rfl:u=cP true:=r'
    refine ⟨rfl,OldK.of_keep fun b o e=>?_,os,bare⟩
    cases q:H b with
    | none=>exact un.keep b o e q (by intro z; exact absurd (show b∈([]:List Addr) from z) (by simp)) (by simp)
    | some u=>
     rcases hO b with z | ⟨ob,xs,z⟩
     ·rw [q] at z; cases z
     ·have z2:=un.frzs b ob _ z
      obtain ⟨e1,_⟩:=hok b _ z
      obtain ⟨e2,_⟩:=hok' b _ z2
      rw [e] at e1; cases e1
      exact e2
 cases hk:K.lookup a with
 | some o=>
  have e:=KX a o hk
  rw [ha] at e
  cases e
  refine core (fun _=>none) (fun _=>.inl rfl) (.inr ⟨_,vs.toArray,_,hk,rfl,rfl,rfl,by rw [aq,lenV]; exact hl,by simpa using rv⟩) (fun b u z=>by have z':(none:Option HO)=some u:=z; cases z') (fun b z=>absurd rfl z) fun z=>absurd rfl z
 | none=>
  refine core (fun b=>if b=a then some (.frz { cls:=.type "list",data:=.seq vs.toArray } (.lst (ns.map V.int))) else none) (fun b=>?_) (.inl (.inr ⟨{ cls:=.type "list",data:=.seq vs.toArray },if_pos rfl⟩)) (fun b u z=>?_) (fun b z=>?_) fun _=>hk
  ·by_cases hb:b=a
   ·exact .inr ⟨_,_,if_pos hb⟩
   ·exact .inl (if_neg hb)
  ·by_cases hb:b=a
   ·have z':=(if_pos hb).symm.trans z
    cases z'
    subst hb
    exact ⟨ha,by rw [au]; exact hl,vs,_,rv,ha⟩
   ·have z':=(if_neg hb).symm.trans z
    cases z'
  ·by_cases hb:b=a
   ·exact hb
   ·exact absurd (if_neg hb) z
theorem qb3 {l:e9} {n k:Nat} {q:Program} {loose:List Str} {XP:(Str->Option Value)->Heap->Prop} {YP:World->Heap->Prop} {d:DefRec} {K:Params->Frag} {CX:World->CXT} {sp:World->Sp} {x:Str}
  (hn:l.most=some n) (hn2:n<=sizeLine) (hdf:d.params.defaults=[]) (hr:Room k callerA)
  (hY:∀ (w:World) (h:Heap),YP w h->(K w.params).In h)
  (F:∀ (w:World) (mg:Str->Option Value) (fa:Addr) (h:Heap),(K w.params).In h->h.Ns mainGlobals mg->mg d.name=some (.ref fa) ->
   ∃ fd:FuncData,(∀ (s:Shared) (u:Value),BindsTo s fd ⟨[u],[]⟩ [(x,u)]) /\
    ∀ base:Heap,(K w.params).In base->base.Ns mainGlobals mg->FnOk l.prog w (K w.params) mg base (CX w) k fa fd [x] (sp w))
  (hsp:∀ (w:World) (H:Hp) (a:Addr) (ns:List Int),ns.length<=n->qf7 H->SqL (K w.params) H a (ns.map V.int)->sp w [.ref a] H (fun v _=>v=.bl true) fun _ _ _=>False)
  (hCX:∀ (w:World) (H:Hp) (s:Shared) (e:Value) (s':Shared),CX w [] H s (fun _ _ _=>False) e s'->False) :
  PySem.W.WalkO q loose XP YP l.row.toRowW d [] (fun f vs=>fK f vs):=by
 refine Att.attach_call hn hdf fun w s₀ s₁ mg mb fa o pm cd doc a vs ns G Y ho hd hcd hmg hobj hints hlen hg=>?_
 have KX:=hY w _ Y
 obtain ⟨fd,hb,hF⟩:=F w mg fa _ KX G.T.g hmg
 exact Gq KX G.T.g G.T.b G.T.builtins G.T.nolimit hg hobj hints (bc hlen hn2) hr hF hb (fun H hO hS=>hsp w H a ns hlen hO hS) fun H e s'=>hCX w H s₁ e s'
noncomputable def uH (s:Stmt):Arguments:=match s with
 | .FunctionDef _ a _ _ _ _ _ _ _ _=>a
 | _=>{ posonlyargs:=[],args:=[],vararg:=none,kwonlyargs:=[],kw_defaults:=[],kwarg:=none,defaults:=[] }
noncomputable def vV (s:Stmt):List Stmt:=match s with
 | .FunctionDef _ _ b _ _ _ _ _ _ _=>b
 | _=>[]
noncomputable def qf (s:Stmt):Scope:=match s with
 | .FunctionDef _ _ _ _ _ _ sc _ _ _=>sc
 | _=>{ kind:=.function,names:=[],isGenerator:=false,isCoroutine:=false }
structure Fun (K:Frag) (x qual:Str) (st:Stmt) (f:Addr) (fd:FuncData):Prop where
 ex:∃ (oc:Value) (od:Option Addr) (kV doc pm:Value) (an:Option Addr) (cdv ct:Value) (osl:Array (Option Value)),
  fd=cA x qual (uH st) (vV st) (qf st) .none kV doc pm an cdv ct/\K.lookup f=some ⟨oc,od,.func fd,osl⟩/\codeIn K cdv qual=true
 kp:keepIn K (.ref f)=true
variable {P:Program} {w:World} {K:Frag} {qual:Str} {st:Stmt} {f:Addr}
section
variable {mg:Str->Option Value} {base:Heap}
theorem Fun.binds {x:Str} {fd:FuncData} {ps:List Str} (F:Fun K x qual st f fd)
  (h:∀ (kV doc pm:Value) (an:Option Addr) (cdv ct:Value) (us:List Value),us.length=ps.length->bindArgs (cA x qual (uH st) (vV st) (qf st) .none kV doc pm an cdv ct) ⟨us,[]⟩=pure (ps.zip us)):Binds K fd ps []:=by
 obtain ⟨oc,od,kV,doc,pm,an,cdv,ct,osl,rfl,lk,hcd⟩:=F.ex
 exact .all (h kV doc pm an cdv ct)
theorem YB {x:Str} {oc:Value} {od an:Option Addr} {osl:Array (Option Value)} {kV doc pm cdv ct:Value} (l:K.lookup f=some ⟨oc,od,.func (cA x qual (uH st) (vV st) (qf st) .none kV doc pm an cdv ct),osl⟩)
  (c:codeIn K cdv qual=true) (k:keepIn K (.ref f)=true):Fun K x qual st f (cA x qual (uH st) (vV st) (qf st) .none kV doc pm an cdv ct):=⟨⟨oc,od,kV,doc,pm,an,cdv,ct,osl,rfl,l,c⟩,k⟩
end
def Same (H H':Hp):Prop:=∀ b o,H b=some o->H' b=some o
theorem Same.refl (H:Hp):Same H H:=fun _ _ h=>h
variable {H:Hp}
theorem Same.trans {H1 H2:Hp} (a:Same H H1) (b:Same H1 H2):Same H H2:=fun c o h=>b c o (a c o h)
variable {H':Hp}
theorem Same.free (e:Same H H') {l:Addr} (h:H' l=Option.none):H l=Option.none:=by
 cases q:H l with
 | none=>rfl
 | some o=>
  rw [e l o q] at h
  cases h
variable {a:Addr}
theorem Same.seq {xs:List V} (e:Same H H') (h:SqL K H a xs):SqL K H' a xs:=by
 rcases h with (h | ⟨o,h⟩) | h
 ·exact .inl (.inl (e _ _ h))
 ·exact .inl (.inr ⟨o,e _ _ h⟩)
 ·exact .inr h
variable {o:Option V} {u:Value} {d y:V}
section
variable {κ:Type} [DecidableEq κ]
noncomputable def KB (kvs:List (κ×V)) (k:κ):Option V:=(kvs.find? fun kv=>decide (kv.1=k)).map (·.2)
noncomputable def KK (kvs:List (κ×V)) (k:κ) (v:V):List (κ×V):=
 if (kvs.any fun kv=>decide (kv.1=k))=true then kvs.map (fun kv=>if kv.1=k then (kv.1,v) else kv) else kvs++[(k,v)]
theorem xN {p:κ×V} {r:List (κ×V)} {k:κ} (e:p.1=k):KB (p::r) k=some p.2:=by simp [KB,cS,e]
theorem yb {p:κ×V} {r:List (κ×V)} {k:κ} (e:¬p.1=k):KB (p::r) k=KB r k:=by simp [KB,cS,e]
theorem gW (k:κ):∀ kvs:List (κ×V),(kvs.any fun kv=>decide (kv.1=k))=(KB kvs k).isSome
 | []=>rfl
 | p::r=>by
  rw [cF]
  by_cases e:p.1=k
  ·simp only [xN e,decide_eq_true e,Bool.true_or,Option.isSome_some]
  ·rw [yb e,decide_eq_false e,Bool.false_or]; exact gW k r
theorem zi (kvs:List (κ×V)) (k:κ) (v:V):(KK kvs k v).length<=kvs.length+1:=by
 unfold KK
 split
 ·rw [au]; omega
 ·rw [ai,ap,ba]; omega
theorem RelO.isSome_eq {u:Option Value} (r:RelO o u):o.isSome=u.isSome:=by
 cases o with
 | none=>cases u with
  | none=>rfl
  | some _=>exact (show False from r).elim
 | some _=>cases u with
  | none=>exact (show False from r).elim
  | some _=>rfl
theorem RelO.getD {u:Option Value} {d':Value} (r:RelO o u) (rd:RelV d d'):RelV (o.getD d) (u.getD d'):=by
 cases o with
 | none=>cases u with
  | none=>exact rd
  | some _=>exact (show False from r).elim
 | some _=>cases u with
  | none=>exact (show False from r).elim
  | some _=>exact r
theorem KV.val {kvs:List (κ×V)} {vs:List (κ×Value)} (r:KV kvs vs) (k:κ):RelO (KB kvs k) (valueAt vs k):=by
 unfold KV at r
 induction r with
 | nil=>exact cW
 | @cons p q ps qs h t ih=>
  obtain ⟨h1,h2⟩:=h
  by_cases e:p.1=k
  ·have e':q.1=k:=h1.symm.trans e
   have b:valueAt (q::qs) k=some q.2:=by simp [valueAt,cS,e']
   rw [xN e,b]; exact h2
  ·have e':¬q.1=k:=fun z=>e (h1.trans z)
   have b:valueAt (q::qs) k=valueAt qs k:=by simp [valueAt,cS,e']
   rw [yb e,b]; exact ih
theorem KV.any {kvs:List (κ×V)} {vs:List (κ×Value)} (r:KV kvs vs) (k:κ):(kvs.any fun kv=>decide (kv.1=k))=vs.any fun kv=>decide (kv.1=k):=by
 unfold KV at r
 induction r with
 | nil=>rfl
 | cons h t ih=>rw [cF,cF,ih,h.1]
theorem KV.repl {kvs:List (κ×V)} {vs:List (κ×Value)} (r:KV kvs vs) (k:κ) (ry:RelV y u) :
  KV (kvs.map fun kv=>if kv.1=k then (kv.1,y) else kv) (vs.map fun kv=>if kv.1=k then (kv.1,u) else kv):=by
 unfold KV at r ⊢
 induction r with
 | nil=>exact .nil
 | @cons p q ps qs h t ih=>
  rw [aC,aC]
  refine .cons ?_ ih
  obtain ⟨h1,h2⟩:=h
  by_cases e:p.1=k
  ·rw [if_pos e,if_pos (h1.symm.trans e)]; exact ⟨h1,ry⟩
  ·rw [if_neg e,if_neg (fun z=>e (h1.trans z))]; exact ⟨h1,h2⟩
theorem KV.put {kvs:List (κ×V)} {vs:List (κ×Value)} (r:KV kvs vs) (k:κ) (ry:RelV y u):KV (KK kvs k y) (stored vs k u):=by
 unfold KK stored
 rw [r.any k]
 by_cases e:(vs.any fun kv=>decide (kv.1=k))=true
 ·rw [if_pos e,if_pos e]; exact r.repl k ry
 ·rw [if_neg e,if_neg e]; exact Paired.snoc r ⟨rfl,ry⟩
theorem KV.keys {kvs:List (κ×V)} {vs:List (κ×Value)} (r:KV kvs vs):kvs.map (·.1)=vs.map (·.1):=by
 unfold KV at r
 induction r with
 | nil=>rfl
 | cons h t ih=>rw [aC,aC,ih,h.1]
theorem KV.length {kvs:List (κ×V)} {vs:List (κ×Value)} (r:KV kvs vs):kvs.length=vs.length:=eO r
end
theorem Uz {k:Key} (r:RelV (kV k) u):(jH P w).is k u=true:=by
 cases k with
 | inl i=>obtain ⟨t,e⟩:=(show ∃ t,u=fq i t from r); subst e; exact KD P w i t
 | inr x=>obtain ⟨t,e⟩:=(show ∃ t,u=eR x t from r); subst e; exact KF P w x t
theorem Jq:∀ {ks:List Key} {us:List Value},Vals (ks.map kV) us->ItemsAre (jH P w) ks us
 | [],_,r=>by rw [ck] at r; cases r; exact .nil
 | k::ks,_,r=>by
  rw [aC] at r
  cases r with
  | cons h t=>exact .cons (Uz h) (Jq t)
abbrev KT (H:Hp):List (List Key×V)->List (List Key×Addr×Value)->Prop:=Paired fun p q=>p.1=q.1/\H q.2.1=some (.tup (p.1.map kV))/\RelV p.2 q.2.2
variable {xs:List (List Key×Addr×Value)} {kvs:List (List Key×V)}
theorem KT.val (r:KT H kvs xs) (k:List Key):RelO (KB kvs k) ((atKey xs k).map (·.2)):=by
 induction r with
 | nil=>exact cW
 | @cons p q ps qs h t ih=>
  obtain ⟨h1,_,h2⟩:=h
  by_cases e:p.1=k
  ·have e':q.1=k:=h1.symm.trans e
   have b:atKey (q::qs) k=some q.2:=by simp [atKey,cS,e']
   rw [xN e,b]; exact h2
  ·have e':¬q.1=k:=fun z=>e (h1.trans z)
   have b:atKey (q::qs) k=atKey qs k:=by simp [atKey,cS,e']
   rw [yb e,b]; exact ih
theorem KT.repl (r:KT H kvs xs) (k:List Key) (ry:RelV y u) :
  KT H (kvs.map fun kv=>if kv.1=k then (kv.1,y) else kv) (xs.map (putAt k u)):=by
 induction r with
 | nil=>exact .nil
 | @cons p q ps qs h t ih=>
  rw [aC,aC]
  refine .cons ?_ ih
  obtain ⟨h1,h2,h3⟩:=h
  unfold putAt
  by_cases e:p.1=k
  ·rw [if_pos e,if_pos (h1.symm.trans e)]; exact ⟨h1,h2,ry⟩
  ·rw [if_neg e,if_neg (fun z=>e (h1.trans z))]; exact ⟨h1,h2,h3⟩
variable {b:Addr}
theorem KT.put (r:KT H kvs xs) (k:List Key) (hb:H b=some (.tup (k.map kV))) (ry:RelV y u) :
  KT H (KK kvs k y) (storedH xs k b u):=by
 have e:(kvs.any fun kv=>decide (kv.1=k))=(atKey xs k).isSome:=by
  rw [gW,(r.val k).isSome_eq,eG]
 unfold KK storedH
 rw [e]
 by_cases q:(atKey xs k).isSome=true
 ·rw [if_pos q,if_pos q]; exact r.repl k ry
 ·rw [if_neg q,if_neg q]; exact Paired.snoc r ⟨rfl,hb,ry⟩
theorem KT.keeps (r:KT H kvs xs) (ht:∀ b ys,H b=some (.tup ys)->H' b=some (.tup ys)):KT H' kvs xs:=
 Paired.mapP r fun _ _ z=>⟨z.1,ht _ _ z.2.1,z.2.2⟩
section
variable {h:Heap}
theorem qdY {u:HO} (ok:HOk P w H h) (e:Rd H a u):ObjOk P w H h a u:=e.ok ok
theorem Jr {kvs:List (Key×V)} (ok:HOk P w H h) (e:Rd H a (.dK kvs)):kvs.length<=sizeLine/\(a == sysModules)=false/\∃ vs,KV kvs vs/\h.DictOf (jH P w) a vs:=
 show ObjOk P w H h a (.dK kvs) from qdY ok e
theorem qf8 {kvs:List (Key×V)} (ok:HOk P w H h) (e:H a=some (.dK kvs)):kvs.length<=sizeLine/\(a == sysModules)=false/\∃ vs,KV kvs vs/\h.DictOf (jH P w) a vs:=Jr ok (.inl e)
theorem zj {ks:List Key} (ok:HOk P w H h) (e:H a=some (.tup (ks.map kV))):(tupleKind (jH P w)).is h ks a:=by
 obtain ⟨_,its,r,o,h1,h2,n,h3⟩:=(show ObjOk P w H h a (.tup (ks.map kV)) from ok a _ e)
 exact ⟨o,its.toArray,n,h1,h2,h3,by simpa using Jq r⟩
theorem KL (ok:HOk P w H h) (e:Rd H a (.dT kvs)):kvs.length<=sizeLine/\(a == sysModules)=false /\
  ∃ xs,KT H kvs xs/\h.DictOfH (tupleKind (jH P w)) a xs:=by
 obtain ⟨z,y,xs,r,o,es,ep,h1,h2,h3,h4,h5⟩:=(show ObjOk P w H h a (.dT kvs) from qdY ok e)
 refine ⟨z,y,xs,r,o,es,ep,h1,h2,h3,h4,fun x hx=>?_,h5⟩
 have all:∀ {l:List (List Key×V)} {m:List (List Key×Addr×Value)},KT H l m->∀ x∈m,(tupleKind (jH P w)).is h x.1 x.2.1:=by
  intro l m q
  induction q with
  | nil=>intro x hx; exact nomatch hx
  | @cons p q ps qs hq t ih=>
   intro x hx
   rcases ac.mp hx with e | hx
   ·subst e
    exact zj ok (by rw [<-hq.1]; exact hq.2.1)
   ·exact ih x hx
 exact all r x hx
theorem qf9 (ok:HOk P w H h) (e:H a=some (.dT kvs)):kvs.length<=sizeLine/\(a == sysModules)=false /\
  ∃ xs,KT H kvs xs/\h.DictOfH (tupleKind (jH P w)) a xs:=KL ok (.inl e)
end
def DGet (H:Hp) (a:Addr) (y:V) (r:Option V):Prop:=
 (∃ kvs k,Rd H a (.dK kvs)/\y=kV k/\r=KB kvs k)\/∃ kvs k b,Rd H a (.dT kvs)/\y=.ref b/\H b=some (.tup (k.map kV))/\r=KB kvs k
def DPut (H:Hp) (a:Addr) (y v:V) (H':Hp):Prop:=
 (∃ kvs k,H a=some (.dK kvs)/\y=kV k/\kvs.length < sizeLine/\H'=upd H a (.dK (KK kvs k v))) \/
 ∃ kvs k b,H a=some (.dT kvs)/\y=.ref b/\H b=some (.tup (k.map kV))/\kvs.length < sizeLine/\H'=upd H a (.dT (KK kvs k v))
theorem DGet.k {kvs:List (Key×V)} {k:Key} (e:H a=some (.dK kvs)):DGet H a (kV k) (KB kvs k):=.inl ⟨kvs,k,.inl e,rfl,rfl⟩
theorem DGet.t {k:List Key} (e:H a=some (.dT kvs)) (eb:H b=some (.tup (k.map kV))):DGet H a (.ref b) (KB kvs k):=.inr ⟨kvs,k,b,.inl e,rfl,eb,rfl⟩
variable {v:V}
theorem DPut.k {kvs:List (Key×V)} {k:Key} (e:H a=some (.dK kvs)) (hl:kvs.length < sizeLine):DPut H a (kV k) v (upd H a (.dK (KK kvs k v))):=.inl ⟨kvs,k,e,rfl,hl,rfl⟩
theorem DPut.t {k:List Key} {v:V} (e:H a=some (.dT kvs)) (eb:H b=some (.tup (k.map kV))) (hl:kvs.length < sizeLine) :
  DPut H a (.ref b) v (upd H a (.dT (KK kvs k v))):=.inr ⟨kvs,k,b,e,rfl,eb,hl,rfl⟩
variable {X:Cx} {pins:List (Addr×Obj)} {σ:St} {s:Shared} {A:Around} {E Q:Value->Shared->Prop} {h':Heap}
section
variable {r:Value}
theorem Inv.big (I:Inv X pins σ H s):sysModules < s.heap.objs.size:=by
 have h:mainGlobals < s.heap.objs.size:=(I.mod.glob.keeps I.bk).lt
 exact eZ (by decide) h
theorem YC (hu:A.units+1 < cLine) (I:Inv X pins σ H s) (g:DGet H a y (some v)) (ry:RelV y u) (h:∀ w' s',Inv X pins σ H s'->RelV v w'->Q w' s') :
  wpAny (model X.prog X.w) A (getItem (.ref a) u) Q E s:=by
 rcases g with ⟨kvs,k,e,ey,l⟩ | ⟨kvs,k,b,e,ey,eb,l⟩
 ·subst ey
  obtain ⟨z,hd,vs,rel,dd⟩:=Jr I.hok e
  obtain ⟨w',hw,rw'⟩:=RelO.some_of (v:=v) (o:=valueAt vs k) (by rw [l]; exact rel.val k)
  exact wpAny_getItem_of (Uz ry) dd.mapOf hw (h w' _ (I.tok _) rw')
 ·subst ey
  cases (show u=cf b from ry)
  obtain ⟨z,hd,xs,rel,dd⟩:=KL I.hok e
  obtain ⟨w',hw,rw'⟩:=RelO.some_of (v:=v) (o:=(atKey xs k).map (·.2)) (by rw [l]; exact rel.val k)
  obtain ⟨p,hp,hp2⟩:=bb.mp hw
  refine wpAny_getItem_heap (tupleKind_room_in1 hu) (zj I.hok eb) dd hp ?_
  rw [hp2]
  exact h w' _ (I.tok _) rw'
theorem qhz (hu:A.units+1 < cLine) (I:Inv X pins σ H s) (g:DGet H a y o) (ry:RelV y u) (h:∀ s',Inv X pins σ H s'->Q (.bool o.isSome) s') :
  wpAny (model X.prog X.w) A (compareOp .In u (.ref a)) Q E s:=by
 rcases g with ⟨kvs,k,e,ey,l⟩ | ⟨kvs,k,b,e,ey,eb,l⟩
 ·subst ey
  obtain ⟨z,hd,vs,rel,dd⟩:=Jr I.hok e
  refine wpAny_in_of (Uz ry) hd dd.mapOf ?_
  rw [<-(rel.val k).isSome_eq,<-l]
  exact h _ (I.tok _)
 ·subst ey
  cases (show u=cf b from ry)
  obtain ⟨z,hd,xs,rel,dd⟩:=KL I.hok e
  refine wpAny_in_heap (tupleKind_room_in1 hu) (zj I.hok eb) hd dd ?_
  have q:=(rel.val k).isSome_eq
  rw [eG] at q
  rw [<-q,<-l]
  exact h _ (I.tok _)
theorem qb4 (hu:A.units+1 < cLine) (I:Inv X pins σ H s) (g:DGet H a y o) (ry:RelV y u) (h:∀ s',Inv X pins σ H s'->Q (.bool (!o.isSome)) s') :
  wpAny (model X.prog X.w) A (compareOp .NotIn u (.ref a)) Q E s:=by
 rcases g with ⟨kvs,k,e,ey,l⟩ | ⟨kvs,k,b,e,ey,eb,l⟩
 ·subst ey
  obtain ⟨z,hd,vs,rel,dd⟩:=Jr I.hok e
  refine wpAny_notIn_of (Uz ry) hd dd.mapOf ?_
  rw [<-(rel.val k).isSome_eq,<-l]
  exact h _ (I.tok _)
 ·subst ey
  cases (show u=cf b from ry)
  obtain ⟨z,hd,xs,rel,dd⟩:=KL I.hok e
  refine wpAny_notIn_heap (tupleKind_room_in1 hu) (zj I.hok eb) hd dd ?_
  have q:=(rel.val k).isSome_eq
  rw [eG] at q
  rw [<-q,<-l]
  exact h _ (I.tok _)
theorem YD {t':Nat} {ob:HO} (I:Inv X pins σ H s) (mu:Mut (H a)) (hs:bQ a s.heap h') (he:∃ q,h'.get? a=some q) (new:ObjOk X.prog X.w (upd H a ob) h' a ob) :
  Inv X pins σ (upd H a ob) { s with heap:=h',toks:=t' }:=
 I.write (x:=a) (e:=a) mu (.inl rfl) (fun b q hb z=>(hs.2 b hb).trans z) he new
theorem qdZ {H':Hp} {kvs:List (Key×V)} {vs:List (Key×Value)} (z:kvs.length<=sizeLine) (hd:(a == sysModules)=false) (rel:KV kvs vs) (dd:h'.DictOf (jH P w) a vs) :
  ObjOk P w H' h' a (.dK kvs):=⟨z,hd,vs,rel,dd⟩
theorem YE {Q:Unit->Shared->Prop} (hu:A.units+1 < cLine) (I:Inv X pins σ H s) (g:DPut H a y v H') (ry:RelV y u) (rv:RelV v r) (h:∀ s',Inv X pins σ H' s'->Q () s') :
  wpAny (model X.prog X.w) A (setItem (.ref a) u r) Q E s:=by
 rcases g with ⟨kvs,k,e,ey,l,eH⟩ | ⟨kvs,k,b,e,ey,eb,l,eH⟩
 ·subst ey eH
  obtain ⟨z,hd,vs,rel,dd⟩:=qf8 I.hok e
  have hz:vs.length<=sizeLine:=by rw [<-rel.length]; exact z
  have hl:(KK kvs k v).length<=sizeLine:=by have:=zi kvs k v; omega
  refine wpAny_setItem_pairs (hsz:=hz) (Uz ry) dd fun h' dd' hs=>h _ ?_
  have he:∃ q,h'.get? a=some q:=let ⟨q,_,_,hq,_⟩:=dd'; ⟨q,hq⟩
  exact YD I (by rw [e]; exact cW) hs he (qdZ hl hd (rel.put k rv) dd')
 ·subst ey eH
  cases (show u=cf b from ry)
  obtain ⟨z,hd,xs,rel,dd⟩:=qf9 I.hok e
  have hz:xs.length<=sizeLine:=by rw [<-eO rel]; exact z
  have hl:(KK kvs k v).length<=sizeLine:=by have:=zi kvs k v; omega
  refine wpAny_setItem_heap (hsz:=hz) (tupleKind_room_in1 hu) (zj I.hok eb) dd fun h' dd' hs=>h _ ?_
  obtain ⟨q,es,ep,hq,h2,h3,h4,_,h5⟩:=dd'
  refine YD I (by rw [e]; exact cW) hs ⟨q,hq⟩ ⟨hl,hd,_,(rel.put k eb rv).keeps fun c ys ec=>?_,q,es,ep,hq,h2,h3,h4,h5⟩
  rw [qx (qfI ec e (fun z=>nomatch z))]
  exact ec
end
section
variable {kvs:List (Key×V)} {k:Key}
theorem qga (I:Inv X pins σ H s) (e:Rd H a (.dK kvs)) (h:∀ t s',Inv X pins σ H s'->Q (.int kvs.length t) s'):wpAny (model X.prog X.w) A (call (.builtin "len") [.ref a]) Q E s:=by
 obtain ⟨z,hd,vs,rel,dd⟩:=Jr I.hok e
 refine call_len_dict hd dd (by rw [<-rel.length]; rw [sizeLine_eq] at z; omega) ?_
 rw [<-rel.length]
 exact h _ _ (I.tok _)
end
theorem KM (I:Inv X pins σ H s) (g:DGet H a y o):s.TypeIs (.ref a) "dict":=by
 rcases g with ⟨kvs,k,e,_,_⟩ | ⟨kvs,k,b,e,_,_,_⟩
 ·obtain ⟨_,_,vs,_,dd⟩:=Jr I.hok e
  exact dd.typeIs
 ·obtain ⟨_,_,xs,_,dd⟩:=KL I.hok e
  exact dd.typeIs
def qgb (td ty tv:TE):TS:=fun D σ H=>tv σ H fun v H1=>td σ H1 fun x H2=>ty σ H2 fun y H3=>∃ a H4,x=.ref a/\DPut H3 a y v H4/\D.nx σ H4
variable {pos:Pos}
section
variable {o i e value:Expr} {pos' tpos:Pos} {td ty tv:TE}
theorem qb5 (hu:X.A.units+1 < cLine) (ho:PE X o td) (hi:PE X i ty) (hv:PE X value tv) (hs:swapsWith value (some (.Subscript o i pos')) pos.line X.env=pure false) :
  PS X (.Assign [.Subscript o i pos'] value pos) (qgb td ty tv):=by
 refine ⟨?_⟩
 intro pins s σ H D I h
 refine wpAny_Assign_Subscript (thn (hv pins s σ H _ I h) fun r s1 ⟨v,H1,I1,rv,q1⟩=>thn (ho pins s1 σ H1 _ I1 q1) fun u s2 ⟨x,H2,I2,rx,q2⟩=>thn (hi pins s2 σ H2 _ I2 q2) fun iv s3 ⟨y,H3,I3,ry,a,H4,ex,g,q3⟩=>?_) hs
 subst ex
 obtain rfl:u=cf a:=rx
 exact YE hu I3 g ry rv fun s4 I4=>⟨σ,H4,I4,q3⟩
end
theorem Gr (h:Heap) (hb:sysModules < h.objs.size):ObjOk P w H (h.push { cls:=.type "dict",data:=.dict #[] }) h.objs.size (.dK []):=
 ⟨bB _,beq_eq_false_iff_ne.mpr (bv (aE hb)),[],.nil,Heap.DictOf.new h⟩
def qd0:TE:=fun _ H Q=>∀ p,H p=none->Q (.ref p) (upd H p (.dK []))
section
theorem Gu:PE X (.Dict [] [] pos) qd0:=⟨fun pins s σ H Q I h=>
 wpAny_Dict_empty ⟨.ref s.heap.objs.size,_,I.laid (a:=s.heap.objs.size) (o:=.dK []) (t':=s.toks) (fun _ _ q=>ae _ q) (ax _) (Gr s.heap I.big),rfl,h _ (I.hok.fresh (ax _))⟩⟩
end
structure M1 (X:Cx) (o:Expr) (m:Str) (apos:Pos) (e:Expr) (cpos:Pos):Prop where
 base:attributeBase o m X.env (eval o X.env)=eval o X.env
 few:((backTo cpos (starEach [e] X.env)).all (fun x=>!x.1)&&(backToKw cpos (keywordEach [] X.env)).all (fun x=>x.1.isSome)
  && decide (([e]:List Expr).length+([]:List Keyword).length+(if ([]:List Keyword).isEmpty then 0 else 1) < 30))=true
 line:(apos.endLine == cpos.line)=true
 trees:backTo cpos (starEach [e] X.env)=[(false,eval e X.env)]
structure M2 (X:Cx) (o:Expr) (m:Str) (apos:Pos) (e f:Expr) (cpos:Pos):Prop where
 base:attributeBase o m X.env (eval o X.env)=eval o X.env
 few:((backTo cpos (starEach [e,f] X.env)).all (fun x=>!x.1)&&(backToKw cpos (keywordEach [] X.env)).all (fun x=>x.1.isSome)
  && decide (([e,f]:List Expr).length+([]:List Keyword).length+(if ([]:List Keyword).isEmpty then 0 else 1) < 30))=true
 line:(apos.endLine == cpos.line)=true
 trees:backTo cpos (starEach [e,f] X.env)=[(false,eval e X.env),(false,eval f X.env)]
def IsD (H:Hp) (a:Addr):Prop:=(∃ kvs,Rd H a (.dK kvs))\/∃ kvs,Rd H a (.dT kvs)
theorem qd1 (I:Inv X pins σ H s) (d:IsD H a) :
  s.TypeIs (.ref a) "dict"/\(∀ b,cf a=.ref b->∃ ob,s.heap.get? b=some ob/\ob.dict=none)/\(a == sysModules)=false:=by
 rcases d with ⟨kvs,e⟩ | ⟨kvs,e⟩
 ·obtain ⟨_,hd,vs,_,dd⟩:=Jr I.hok e
  refine ⟨dd.typeIs,fun b q=>?_,hd⟩
  cases q
  obtain ⟨ob,_,_,h1,h2,_⟩:=dd
  exact ⟨ob,h1,h2.2.1⟩
 ·obtain ⟨_,hd,xs,_,dd⟩:=KL I.hok e
  refine ⟨dd.typeIs,fun b q=>?_,hd⟩
  cases q
  obtain ⟨ob,_,_,h1,h2,_⟩:=dd
  exact ⟨ob,h1,h2.2.1⟩
section
variable {r:Value}
theorem qd2 (hu:A.units+1 < cLine) (I:Inv X pins σ H s) (g:DGet H a y o) (ry:RelV y u) (rd:RelV d r) (h:∀ w' s',Inv X pins σ H s'->RelV (o.getD d) w'->Q w' s') :
  wpAny (model X.prog X.w) A (call (.builtin "dict.get") [.ref a,u,r]) Q E s:=by
 rcases g with ⟨kvs,k,e,ey,l⟩ | ⟨kvs,k,b,e,ey,eb,l⟩
 ·subst ey
  obtain ⟨z,hd,vs,rel,dd⟩:=Jr I.hok e
  refine call_meetsIn dO dd.typeIs PySem.F.entry_dict_get (PySem.F.args_dict_get_3 _ _ _) (meets_dict_get_default (jH X.prog X.w) a (Uz ry) hd r) ⟨_,dd.mapOf,h _ _ (I.tok _) ?_⟩
  rw [l]
  exact (rel.val k).getD rd
 ·subst ey
  cases (show u=cf b from ry)
  obtain ⟨z,hd,xs,rel,dd⟩:=KL I.hok e
  refine call_meetsIn dO dd.typeIs PySem.F.entry_dict_get (PySem.F.args_dict_get_3 _ _ _) (meetsH_dict_get_default (tupleKind (jH X.prog X.w)) a b hd r) ⟨tupleKind_room_in1 hu,k,xs,zj I.hok eb,dd,h _ _ (I.tok _) ?_⟩
  rw [l]
  exact (rel.val k).getD rd
end
def qd3 (td ty tx:TE):TE:=fun σ H Q=>td σ H fun x H1=>∃ a,x=.ref a/\IsD H1 a/\ty σ H1 fun y H2=>tx σ H2 fun z H3=>∃ o,DGet H3 a y o/\Q (o.getD z) H3
section
variable {o e f:Expr} {apos cpos:Pos} {td ty tx:TE}
theorem Gv (hu:X.A.units+1 < cLine) (ho:PE X o td) (he:PE X e ty) (hf:PE X f tx) (m:M2 X o "get" apos e f cpos):PE X (.Call (.Attribute o "get" apos) [e,f] [] cpos) (qd3 td ty tx):=by
 refine ⟨?_⟩
 intro pins s σ H Q I h
 refine wpAny_Call_method m.base m.few m.line PySem.F.plainAttrs_dict dO PySem.F.type_dict_get (thn (ho pins s σ H _ I h) fun u s1 ⟨x,H1,I1,rx,a,ex,d,q1⟩=>?_)
 subst ex
 obtain rfl:u=cf a:=rx
 obtain ⟨t1,t2,_⟩:=qd1 I1 d
 refine ⟨t1,t2,?_⟩
 rw [m.trees]
 refine Calls.callWith_builtin rfl (dX (dk (thn (he pins s1 σ H1 _ I1 q1) fun iv s2 ⟨y,H2,I2,ry,q2⟩=>
  dk (thn (hf pins s2 σ H2 _ I2 q2) fun fv s3 ⟨z,H3,I3,rz,ov,g,q3⟩=>eD ?_))))
 exact qd2 hu I3 g ry rz fun w' s4 I4 rw'=>⟨_,H3,I4,rw',q3⟩
end
section
theorem YF:uw X (.builtin "len") (fun xs H Q=>∃ a kvs,xs=[V.ref a]/\H a=some (.dK kvs)/\Q (.int kvs.length) H):=by
 intro pins s σ H xs us Q I r h
 obtain ⟨a,kvs,rfl,ha,q⟩:=h
 obtain ⟨u,rfl,ru⟩:=uG r
 cases ru
 exact qga I (.inl ha) fun t s' I'=>⟨.int kvs.length,H,I',⟨t,rfl⟩,q⟩
end
end L2
namespace L2.D2
open PySem PySem.Spec PyProof.Rows
variable {b:List Nat}
theorem zk {a:List Nat} (h:(a.all fun i=>decide (i∈b))=true):∀ i∈a,i∈b:=fun i hi=>of_decide_eq_true (bp.mp h i hi)
theorem VZ {i:Nat} (h:decide (i∈b)=false):i∉b:=of_decide_eq_false h
noncomputable def KN:Expr->Bool
 | .Starred ..=>false
 | _=>true
variable {e:Expr} {env:Env}
theorem kq {es:List Expr} (h:KN e=true):starEach (e::es) env=(false,eval e env)::starEach es env:=by cases e <;> first | rfl | cases h
theorem qR (h:KN e=true):starEach [e] env=[(false,eval e env)]:=kq h
theorem Gw {a b:Expr} (h:KN a=true) (k:KN b=true):starEach [a,b] env=[(false,eval a env),(false,eval b env)]:=by rw [kq h,qR k]
variable {pos:Pos}
theorem gX:∀ {es:List Expr},es.all KN=true->(backTo pos (starEach es env)).any (·.1)=false
 | [],_=>rfl
 | e::es,h=>by
  rw [fy,aO] at h
  rw [kq h.1]
  exact gX h.2
theorem yc (h:KN e=true):((backTo pos (starEach [e] env)).all (fun x=>!x.1)&&(backToKw pos (keywordEach [] env)).all (fun x=>x.1.isSome)
   && decide ([e].length+([]:List Keyword).length+(if ([]:List Keyword).isEmpty then 0 else 1) < 30))=true:=by rw [qR h]; rfl
inductive D where
 | non | bl (b:Bool) | int (i:Int) | str (x:Str)
 | tup (xs:List D) | lst (xs:List D) | dct (kvs:List (Key×D)) | raw (v:V)
 | xcp (C:Addr) | ins (C:Addr) (fs:List (Str×D)) | at_ (a:Addr) (xs:List D)
 deriving Inhabited
abbrev Sl:=List (Option D)
inductive Out (α:Type) where
 | ok (a:α) | exc (c:Str) (o:Sl) | bad
variable {α β:Type}
noncomputable def Out.bind (o:Out α) (k:α->Out β):Out β:=match o with
 | .ok a=>k a
 | .exc c o=>.exc c o
 | .bad=>.bad
@[simp] theorem Out.ok_bind (a:α) (k:α->Out β):(Out.ok a).bind k=k a:=rfl
@[simp] theorem Out.exc_bind (c:Str) (o:Sl) (k:α->Out β):(Out.exc c o:Out α).bind k=.exc c o:=rfl
@[simp] theorem Out.bad_bind (k:α->Out β):(Out.bad:Out α).bind k=.bad:=rfl
noncomputable def qhA (a C:Addr):HO:=.ext fun h=>∃ oe vs,h.get? a=some oe/\oe.cls=.ref C/\oe.data=.fields vs
mutual
/-- the value v is the data d,all its objects in F -/
inductive Is (K:Frag) (F:Hp):V->D->Prop
 | non:Is K F .non .non
 | bl (b:Bool):Is K F (.bl b) (.bl b)
 | int (i:Int):Is K F (.int i) (.int i)
 | str {x:Str} (h:x.length<=sizeLine):Is K F (.str x) (.str x)
 | tup {a:Addr} {xs:List V} {ds:List D} (h:SqT K F a xs) (t:IsL K F xs ds):Is K F (.ref a) (.tup ds)
 | lst {a:Addr} {xs:List V} {ds:List D} (h:SqL K F a xs) (t:IsL K F xs ds):Is K F (.ref a) (.lst ds)
 | dct {a:Addr} {kv:List (Key×V)} {kvs:List (Key×D)} (h:F a=some (.dK kv)) (t:IsK K F kv kvs):Is K F (.ref a) (.dct kvs)
 | raw (v:V):Is K F v (.raw v)
 | xcp {a C:Addr} (h:F a=some (qhA a C)):Is K F (.ref a) (.xcp C)
 | ins {a C dx:Addr} {fv:List (Str×V)} {fs:List (Str×D)} (h:F a=some (.ins C dx fv)) (t:IsF K F fv fs):Is K F (.ref a) (.ins C fs)
 | at_ {a:Addr} {xs:List V} {ds:List D} (h:SqL K F a xs) (t:IsL K F xs ds):Is K F (.ref a) (.at_ a ds)
inductive IsL (K:Frag) (F:Hp):List V->List D->Prop
 | nil:IsL K F [] []
 | cons {v:V} {d:D} {vs:List V} {ds:List D} (h:Is K F v d) (t:IsL K F vs ds):IsL K F (v::vs) (d::ds)
inductive IsK (K:Frag) (F:Hp):List (Key×V)->List (Key×D)->Prop
 | nil:IsK K F [] []
 | cons {k:Key} {v:V} {d:D} {vs:List (Key×V)} {ds:List (Key×D)} (h:Is K F v d) (t:IsK K F vs ds):IsK K F ((k,v)::vs) ((k,d)::ds)
inductive IsF (K:Frag) (F:Hp):List (Str×V)->List (Str×D)->Prop
 | nil:IsF K F [] []
 | cons {k:Str} {v:V} {d:D} {vs:List (Str×V)} {ds:List (Str×D)} (h:Is K F v d) (t:IsF K F vs ds):IsF K F ((k,v)::vs) ((k,d)::ds)
end
theorem qD {K:Frag} {H H':Hp} {a:Addr} {xs:List V} (e:Same H H') (h:SqT K H a xs):SqT K H' a xs:=by
 rcases h with (h | ⟨o,h⟩) | h
 ·exact .inl (.inl (e _ _ h))
 ·exact .inl (.inr ⟨o,e _ _ h⟩)
 ·exact .inr h
mutual
theorem Is.mono {K:Frag} {F F':Hp} (e:Same F F'):∀ {v:V} {d:D},Is K F v d->Is K F' v d
 | _,_,.non=>.non
 | _,_,.bl b=>.bl b
 | _,_,.int i=>.int i
 | _,_,.str h=>.str h
 | _,_,.tup h t=>.tup (qD e h) (IsL.mono e t)
 | _,_,.lst h t=>.lst (e.seq h) (IsL.mono e t)
 | _,_,.dct h t=>.dct (e _ _ h) (IsK.mono e t)
 | _,_,.raw v=>.raw v
 | _,_,.xcp h=>.xcp (e _ _ h)
 | _,_,.ins h t=>.ins (e _ _ h) (IsF.mono e t)
 | _,_,.at_ h t=>.at_ (e.seq h) (IsL.mono e t)
theorem IsL.mono {K:Frag} {F F':Hp} (e:Same F F'):∀ {vs:List V} {ds:List D},IsL K F vs ds->IsL K F' vs ds
 | _,_,.nil=>.nil
 | _,_,.cons h t=>.cons (Is.mono e h) (IsL.mono e t)
theorem IsK.mono {K:Frag} {F F':Hp} (e:Same F F'):∀ {vs:List (Key×V)} {ds:List (Key×D)},IsK K F vs ds->IsK K F' vs ds
 | _,_,.nil=>.nil
 | _,_,.cons h t=>.cons (Is.mono e h) (IsK.mono e t)
theorem IsF.mono {K:Frag} {F F':Hp} (e:Same F F'):∀ {vs:List (Str×V)} {ds:List (Str×D)},IsF K F vs ds->IsF K F' vs ds
 | _,_,.nil=>.nil
 | _,_,.cons h t=>.cons (Is.mono e h) (IsF.mono e t)
end
theorem IsL.length {K:Frag} {F:Hp}:∀ {vs:List V} {ds:List D},IsL K F vs ds->vs.length=ds.length
 | _,_,.nil=>rfl
 | _,_,.cons _ t=>congrArg (·+1) (IsL.length t)
theorem IsL.get {K:Frag} {F:Hp}:∀ {vs:List V} {ds:List D} {i:Nat} {v:V},IsL K F vs ds->vs[i]?=some v->∃ d,ds[i]?=some d/\Is K F v d
 | _,_,_,_,.nil,e=>by simp at e
 | _,_,0,_,.cons h _,e=>by simp at e; subst e; exact ⟨_,rfl,h⟩
 | _,_,i+1,v,.cons _ t,e=>by
  obtain ⟨d,h1,h2⟩:=IsL.get (i:=i) (v:=v) t (by simpa using e)
  exact ⟨d,by simpa using h1,h2⟩
theorem IsL.getD {K:Frag} {F:Hp}:∀ {vs:List V} {ds:List D} {i:Nat} {d:D},IsL K F vs ds->ds[i]?=some d->∃ v,vs[i]?=some v/\Is K F v d
 | _,_,_,_,.nil,e=>by simp at e
 | _,_,0,_,.cons h _,e=>by simp at e; subst e; exact ⟨_,rfl,h⟩
 | _,_,i+1,v,.cons _ t,e=>by
  obtain ⟨d,h1,h2⟩:=IsL.getD (i:=i) (d:=v) t (by simpa using e)
  exact ⟨d,by simpa using h1,h2⟩
theorem IsL.append {K:Frag} {F:Hp}:∀ {vs ws:List V} {ds es:List D},IsL K F vs ds->IsL K F ws es->IsL K F (vs++ws) (ds++es)
 | _,_,_,_,.nil,s=>s
 | _,_,_,_,.cons h t,s=>.cons h (IsL.append t s)
theorem IsL.take {K:Frag} {F:Hp}:∀ {vs:List V} {ds:List D} (n:Nat),IsL K F vs ds->IsL K F (vs.take n) (ds.take n)
 | _,_,0,_=>.nil
 | _,_,_+1,.nil=>.nil
 | _,_,n+1,.cons h t=>.cons h (IsL.take n t)
theorem IsL.set {K:Frag} {F:Hp} {v:V} {d:D} (h:Is K F v d):∀ {vs:List V} {ds:List D} (i:Nat),IsL K F vs ds->IsL K F (vs.set i v) (ds.set i d)
 | _,_,_,.nil=>.nil
 | _,_,0,.cons _ t=>.cons h t
 | _,_,i+1,.cons q t=>.cons q (IsL.set h i t)
def OwnIs (K:Frag) (F H:Hp) (a:Addr):D->Prop
 | .lst ds=>∃ xs,H a=some (.lst xs)/\IsL K F xs ds
 | .dct kvs=>∃ kv,H a=some (.dK kv)/\IsK K F kv kvs
 | .ins C fs=>∃ dx fv,H a=some (.ins C dx fv)/\IsF K F fv fs
 | .at_ b ds=>b=a/\∃ xs,H a=some (.lst xs)/\IsL K F xs ds
 | _=>False
def TopIs (K:Frag) (F H:Hp) (v:V) (d:D):Prop:=Is K F v d\/∃ a,v=.ref a/\OwnIs K F H a d
inductive Mo where
 | sh | fr | any
def MoIs (K:Frag) (m:Mo) (H0 F H:Hp) (v:V) (d:D):Prop:=match m with
 | .sh=>Is K F v d
 | .fr=>∃ a,v=.ref a/\H0 a=none/\F a=none/\OwnIs K F H a d
 | .any=>TopIs K F H v d
theorem MoIs.top {K:Frag} {m:Mo} {H0 F H:Hp} {v:V} {d:D} (h:MoIs K m H0 F H v d):TopIs K F H v d:=by
 cases m with
 | sh=>exact .inl h
 | fr=>obtain ⟨a,e,_,_,o⟩:=h; exact .inr ⟨a,e,o⟩
 | any=>exact h
structure Chg (A:Addr->Prop) (F H F' H':Hp):Prop where
 keep:∀ b o,H b=some o->¬A b->H' b=some o
 stay:∀ b,H b≠none->H' b≠none
 grow:Same F F'
 new:∀ b,F' b≠none->F b≠none\/H b=none\/A b
theorem Chg.refl {A:Addr->Prop} {F H:Hp}:Chg A F H F H:=⟨fun _ _ e _=>e,fun _ h=>h,Same.refl _,fun _ h=>.inl h⟩
theorem Chg.trans {A A1:Addr->Prop} {F H F1 H1 F2 H2:Hp} (a:Chg A F H F1 H1) (b:Chg A1 F1 H1 F2 H2) (hA:∀ x,A1 x->A x\/H x=none):Chg A F H F2 H2 where
 keep:=fun x o e n=>b.keep x o (a.keep x o e n) fun z=>(hA x z).elim n fun q=>by rw [e] at q; cases q
 stay:=fun x h=>b.stay x (a.stay x h)
 grow:=a.grow.trans b.grow
 new:=fun x h=>by
  rcases b.new x h with q | q | q
  ·exact a.new x q
  ·refine .inr (.inl ?_)
   cases e:H x with
   | none=>rfl
   | some o=>exact absurd q (a.stay x (by rw [e]; simp))
  ·rcases hA x q with z | z
   ·exact .inr (.inr z)
   ·exact .inr (.inl z)
theorem Chg.trans' {A:Addr->Prop} {F H F1 H1 F2 H2:Hp} (a:Chg A F H F1 H1) (b:Chg A F1 H1 F2 H2):Chg A F H F2 H2:=a.trans b fun _ z=>.inl z
theorem Chg.mono {A A':Addr->Prop} {F H F1 H1:Hp} (a:Chg A F H F1 H1) (h:∀ x,A x->A' x):Chg A' F H F1 H1:=
 ⟨fun b o e n=>a.keep b o e fun z=>n (h b z),a.stay,a.grow,fun b z=>(a.new b z).imp id (Or.imp id (h b))⟩
abbrev No:Addr->Prop:=fun _=>False
theorem Chg.ofNo {A:Addr->Prop} {F H F1 H1:Hp} (a:Chg No F H F1 H1):Chg A F H F1 H1:=a.mono fun _ z=>z.elim
structure Rep (K:Frag) (own:List Nat) (F H:Hp) (σ:St) (ρ:Sl):Prop where
 sub:Same F H
 len:σ.length=ρ.length
 val:∀ i d,i∉own->ρ[i]?=some (some d)->∃ v,σ[i]?=some (some v)/\Is K F v d
 ow:∀ i d,i∈own->ρ[i]?=some (some d)->∃ a,σ[i]?=some (some (.ref a))/\F a=none/\OwnIs K F H a d
 opn:∀ i,i∈own->∃ d,ρ[i]?=some (some d)
 dis:∀ i j a,i∈own->j∈own->σ[i]?=some (some (V.ref a))->σ[j]?=some (some (V.ref a))->i=j
def OA (own:List Nat) (σ:St):Addr->Prop:=fun b=>∃ i∈own,σ[i]?=some (some (V.ref b))
theorem OwnIs.there {K:Frag} {F H:Hp} {a:Addr} {d:D} (h:OwnIs K F H a d):H a≠none:=by
 cases d with
 | lst ds=>obtain ⟨xs,e,_⟩:=h; rw [e]; simp
 | dct ds=>obtain ⟨xs,e,_⟩:=h; rw [e]; simp
 | ins C fs=>obtain ⟨dx,xs,e,_⟩:=h; rw [e]; simp
 | at_ b ds=>obtain ⟨_,xs,e,_⟩:=h; rw [e]; simp
 | _=>exact h.elim
theorem OwnIs.grow {K:Frag} {F H F' H':Hp} {a:Addr} {d:D} (h:OwnIs K F H a d) (g:Same F F') (k:∀ o,H a=some o->H' a=some o):OwnIs K F' H' a d:=by
 cases d with
 | lst ds=>obtain ⟨xs,e,t⟩:=h; exact ⟨xs,k _ e,t.mono g⟩
 | dct ds=>obtain ⟨xs,e,t⟩:=h; exact ⟨xs,k _ e,t.mono g⟩
 | ins C fs=>obtain ⟨dx,xs,e,t⟩:=h; exact ⟨dx,xs,k _ e,t.mono g⟩
 | at_ b ds=>obtain ⟨eb,xs,e,t⟩:=h; exact ⟨eb,xs,k _ e,t.mono g⟩
 | _=>exact h.elim
theorem Rep.OA_there {K:Frag} {own:List Nat} {F H:Hp} {σ:St} {ρ:Sl} (r:Rep K own F H σ ρ) {b:Addr} (h:OA own σ b):H b≠none/\F b=none:=by
 obtain ⟨i,hi,e⟩:=h
 obtain ⟨d,hd⟩:=r.opn i hi
 obtain ⟨a,e1,e2,o⟩:=r.ow i d hi hd
 rw [e] at e1
 cases e1
 exact ⟨o.there,e2⟩
theorem Rep.grow {K:Frag} {own:List Nat} {F H F' H':Hp} {σ:St} {ρ:Sl} (r:Rep K own F H σ ρ) (c:Chg No F H F' H') (s:Same F' H'):Rep K own F' H' σ ρ where
 sub:=s
 len:=r.len
 val:=fun i d hi e=>let ⟨v,h1,h2⟩:=r.val i d hi e; ⟨v,h1,h2.mono c.grow⟩
 ow:=fun i d hi e=>by
  obtain ⟨a,h1,h2,h3⟩:=r.ow i d hi e
  refine ⟨a,h1,?_,h3.grow c.grow fun o q=>c.keep a o q fun z=>z⟩
  cases q:F' a with
  | none=>rfl
  | some o=>
   rcases c.new a (by rw [q]; simp) with z | z | z
   ·exact absurd h2 z
   ·exact absurd z h3.there
   ·exact z.elim
 opn:=r.opn
 dis:=r.dis
theorem MoIs.grow {K:Frag} {A:Addr->Prop} {m:Mo} {H0 F H F' H':Hp} {v:V} {d:D} (h:MoIs K m H0 F H v d) (hm:m≠.any) (c:Chg A F H F' H') (hA:∀ x,A x->H0 x≠none):MoIs K m H0 F' H' v d:=by
 cases m with
 | sh=>exact Is.mono c.grow h
 | fr=>
  obtain ⟨a,e,h0,hF,o⟩:=h
  have nA:¬A a:=fun z=>hA a z h0
  refine ⟨a,e,h0,?_,o.grow c.grow fun o q=>c.keep a o q nA⟩
  cases q:F' a with
  | none=>rfl
  | some u=>
   rcases c.new a (by rw [q]; simp) with z | z | z
   ·exact absurd hF z
   ·exact absurd z o.there
   ·exact absurd z nA
 | any=>exact absurd rfl hm
def ZY (K:Frag) (io:List Nat) (F H:Hp) (σ:St) (ρ:Sl):Prop:=∀ i∈io,∃ d a,ρ[i]?=some (some d)/\σ[i]?=some (some (V.ref a))/\F a=none/\OwnIs K F H a d
theorem Rep.ioIs {K:Frag} {own io:List Nat} {F H:Hp} {σ:St} {ρ:Sl} (r:Rep K own F H σ ρ) (h:∀ i∈io,i∈own):ZY K io F H σ ρ:=fun i hi=>by
 obtain ⟨d,hd⟩:=r.opn i (h i hi)
 obtain ⟨a,h1,h2,h3⟩:=r.ow i d (h i hi) hd
 exact ⟨d,a,hd,h1,h2,h3⟩
structure Ct where
 K:Frag
 cv:Str->Value
 E:XK
 io:List Nat
 mr:Mo
 ol:List Nat
 ox:List Nat
 oxs:∀ i∈ox,i∈io
def Po (C:Ct) (own:List Nat) (m:Mo) (σ:St) (F H:Hp) (r:Out (D×Sl)) (Q:VK):Prop:=match r with
 | .ok (d,ρ')=>∀ v F' H',Rep C.K own F' H' σ ρ'->Chg (OA own σ) F H F' H'->MoIs C.K m H F' H' v d->Q v H'
 | .exc c ρ'=>∀ F' H',Same F' H'->ZY C.K C.ox F' H' σ ρ'->Chg (OA own σ) F H F' H'->C.E (C.cv c) none H'
 | .bad=>False
def tE (C:Ct) (own:List Nat) (m:Mo) (f:Sl->Out (D×Sl)):TE:=fun σ H Q=>∃ F ρ,Rep C.K own F H σ ρ/\Po C own m σ F H (f ρ) Q
theorem MoIs.back {K:Frag} {m:Mo} {A:Addr->Prop} {H0 F H F1 H1:Hp} {Fa Ha:Hp} {v:V} {d:D} (c:Chg A Fa H0 F1 H1) (h:MoIs K m H1 F H v d):MoIs K m H0 F H v d:=by
 cases m with
 | sh=>exact h
 | fr=>
  obtain ⟨a,e,h0,r⟩:=h
  refine ⟨a,e,?_,r⟩
  cases q:H0 a with
  | none=>rfl
  | some o=>exact absurd h0 (c.stay a (by rw [q]; simp))
 | any=>exact h
theorem Po.shift {C:Ct} {own:List Nat} {m:Mo} {σ:St} {F H F1 H1:Hp} {r:Out (D×Sl)} {Q:VK} (h:Po C own m σ F H r Q) (c:Chg (OA own σ) F H F1 H1):Po C own m σ F1 H1 r Q:=by
 cases r with
 | ok p=>exact fun v F' H' rp c' mo=>h v F' H' rp (c.trans' c') (MoIs.back (Ha:=H1) c mo)
 | exc x=>exact fun F' H' s io c'=>h F' H' s io (c.trans' c')
 | bad=>exact h.elim
theorem Po.bind {C:Ct} {own:List Nat} {m ma:Mo} {σ:St} {F H:Hp} {o:Out (D×Sl)} {k:D×Sl->Out (D×Sl)} {Q R:VK} (hp:Po C own m σ F H (o.bind k) Q)
  (h:∀ v F1 H1 d ρ1,Rep C.K own F1 H1 σ ρ1->Chg (OA own σ) F H F1 H1->MoIs C.K ma H F1 H1 v d->Po C own m σ F1 H1 (k (d,ρ1)) Q->R v H1):Po C own ma σ F H o R:=by
 cases o with
 | ok p=>
  obtain ⟨d,ρ1⟩:=p
  exact fun v F1 H1 rp c mo=>h v F1 H1 d ρ1 rp c mo (Po.shift (show Po C own m σ F H (k (d,ρ1)) Q from hp) c)
 | exc x=>exact hp
 | bad=>exact hp.elim
def PoV (C:Ct) (m:Mo) (F H:Hp) (r:Out D) (Q:VK):Prop:=match r with
 | .ok d=>∀ v F' H',Same F' H'->Chg No F H F' H'->MoIs C.K m H F' H' v d->Q v H'
 | _=>False
def OpD (X:Cx) (C:Ct) (m:Mo) (f:Value->Value->Sem Value) (g:D->D->Out D):Prop:=
 OpR X f (fun x y H Q=>∃ F dx dy,Same F H/\TopIs C.K F H x dx/\TopIs C.K F H y dy/\PoV C m F H (g dx dy) Q)
def UnD (X:Cx) (C:Ct) (m:Mo) (f:Value->Sem Value) (g:D->Out D):Prop:=
 UnR X f (fun x H Q=>∃ F dx,Same F H/\TopIs C.K F H x dx/\PoV C m F H (g dx) Q)
noncomputable def Out.plain {α:Type}:Out α->Out α
 | .ok a=>.ok a
 | _=>.bad
theorem PoV.of {C:Ct} {own:List Nat} {m:Mo} {σ:St} {F H:Hp} {o:Out D} {ρ:Sl} {Q:VK} (rp:Rep C.K own F H σ ρ) (h:Po C own m σ F H (o.plain.bind fun d=>.ok (d,ρ)) Q):PoV C m F H o Q:=by
 cases o with
 | ok d=>exact fun v F' H' s c mo=>h v F' H' (rp.grow c s) c.ofNo mo
 | exc c=>exact h.elim
 | bad=>exact h.elim
noncomputable def d2 (g:D->D->Out D) (fa fb:Sl->Out (D×Sl)):Sl->Out (D×Sl):=fun ρ=>(fa ρ).bind fun p=>(fb p.2).bind fun q=>(g p.1 q.1).plain.bind fun d=>.ok (d,q.2)
noncomputable def d1 (g:D->Out D) (fa:Sl->Out (D×Sl)):Sl->Out (D×Sl):=fun ρ=>(fa ρ).bind fun p=>(g p.1).plain.bind fun d=>.ok (d,p.2)
section
variable {X:Cx} {C:Ct} {own:List Nat} {a b:Expr} {fa fb:Sl->Out (D×Sl)} {m ma mb:Mo} {pos:Pos}
theorem Js {g:D->D->Out D} {σ:St} {H:Hp} {Q:VK} (hma:ma≠.any) (h:tE C own m (d2 g fa fb) σ H Q) :
  tE C own ma fa σ H fun x H1=>tE C own mb fb σ H1 fun y H2=>∃ F dx dy,Same F H2/\TopIs C.K F H2 x dx/\TopIs C.K F H2 y dy/\PoV C m F H2 (g dx dy) Q:=by
 obtain ⟨F,ρ,rp,h⟩:=h
 refine ⟨F,ρ,rp,Po.bind h fun v F1 H1 d ρ1 rp1 c1 mo1 h1=>⟨F1,ρ1,rp1,Po.bind h1 fun w F2 H2 e ρ2 rp2 c2 mo2 h2=>?_⟩⟩
 exact ⟨F2,d,e,rp2.sub,(mo1.grow hma c2 fun x z=>(rp.OA_there z).1).top,mo2.top,PoV.of rp2 h2⟩
theorem Gx {g:D->Out D} {σ:St} {H:Hp} {Q:VK} (h:tE C own m (d1 g fa) σ H Q) :
  tE C own ma fa σ H fun x H1=>∃ F dx,Same F H1/\TopIs C.K F H1 x dx/\PoV C m F H1 (g dx) Q:=by
 obtain ⟨F,ρ,rp,h⟩:=h
 refine ⟨F,ρ,rp,Po.bind h fun v F1 H1 d ρ1 rp1 c1 mo1 h1=>?_⟩
 exact ⟨F1,d,rp1.sub,mo1.top,PoV.of rp1 h1⟩
theorem jR {e:Expr} {t t':TE} (h:PE X e t) (i:∀ σ H Q,t' σ H Q->t σ H Q):PE X e t':=⟨fun pins s σ H Q I hw=>h pins s σ H Q I (i σ H Q hw)⟩
theorem Gy {e:Expr} {t t':TT} (h:PT X e t) (i:∀ σ H Q,t' σ H Q->t σ H Q):PT X e t':=⟨fun pins s σ H Q I hw=>h pins s σ H Q I (i σ H Q hw)⟩
theorem qS {op:Operator} {g:D->D->Out D} (ho:OpD X C m (binaryOp op) g) (ha:PE X a (tE C own ma fa)) (hb:PE X b (tE C own mb fb)) (hma:ma≠.any:=by decide):PE X (.BinOp a op b pos) (tE C own m (d2 g fa fb)):=
 jR (qfU ho ha hb) fun _ _ _ h=>Js hma h
theorem yd {op:CmpOp} {g:D->D->Out D} (ho:OpD X C m (compareOp op) g) (ha:PE X a (tE C own ma fa)) (hb:PE X b (tE C own mb fb)) (hma:ma≠.any:=by decide)
  (hk:behindInMarks op b=false:=by first | exact qa0 _ | with_unfolding_all rfl):PE X (.Compare a [op] [b] pos) (tE C own m (d2 g fa fb)):=
 jR (qbT ho ha hb hk) fun _ _ _ h=>Js hma h
theorem qd4 {op:UnaryOp} {g:D->Out D} (ho:UnD X C m (unaryOp op) g) (ha:PE X a (tE C own ma fa)):PE X (.UnaryOp op a pos) (tE C own m (d1 g fa)):=
 jR (qfV ho ha) fun _ _ _ h=>Gx h
end
instance:DecidableEq Mo:=fun a b=>by cases a <;> cases b <;> first | exact isTrue rfl | exact isFalse (by intro h; cases h)
theorem Gz {K:Frag} {own:List Nat} {H0 F H:Hp} {σ:St} {ρ:Sl} {v:V} {d:D} (rp:Rep K own F H σ ρ) (hA:∀ b,OA own σ b->H0 b≠none) (h:MoIs K .fr H0 F H v d) :
  ∃ F',Rep K own F' H σ ρ/\Same F F'/\Is K F' v d/\∀ b,F' b≠none->F b≠none\/H0 b=none:=by
 obtain ⟨a,rfl,h0,hF,o⟩:=h
 obtain ⟨u,hu⟩:∃ u,H a=some u:=by
  cases q:H a with
  | none=>exact absurd q o.there
  | some u=>exact ⟨u,rfl⟩
 have gr:Same F (upd F a u):=fun b w e=>by rw [qx (qI e hF)]; exact e
 have sb:Same (upd F a u) H:=fun b w e=>by
  by_cases q:b=a
  ·subst q; rw [qo] at e; cases e; exact hu
  ·rw [qx q] at e; exact rp.sub b w e
 refine ⟨upd F a u,⟨sb,rp.len,fun i d hi e=>?_,fun i d hi e=>?_,rp.opn,rp.dis⟩,gr,?_,fun b hb=>?_⟩
 ·obtain ⟨v,h1,h2⟩:=rp.val i d hi e
  exact ⟨v,h1,h2.mono gr⟩
 ·obtain ⟨c,h1,h2,h3⟩:=rp.ow i d hi e
  refine ⟨c,h1,?_,h3.grow gr fun _ q=>q⟩
  have nc:c≠a:=fun q=>by subst q; exact hA c ⟨i,hi,h1⟩ h0
  rw [qx nc]; exact h2
 ·cases d with
  | lst ds=>obtain ⟨xs,e,t⟩:=o; rw [hu] at e; cases e; exact .lst (.inl (.inl qo)) (t.mono gr)
  | dct ds=>obtain ⟨xs,e,t⟩:=o; rw [hu] at e; cases e; exact .dct qo (t.mono gr)
  | ins C fs=>obtain ⟨dx,xs,e,t⟩:=o; rw [hu] at e; cases e; exact .ins qo (t.mono gr)
  | at_ b ds=>obtain ⟨eb,xs,e,t⟩:=o; rw [hu] at e; cases e; subst eb; exact .at_ (.inl (.inl qo)) (t.mono gr)
  | _=>exact o.elim
 ·by_cases q:b=a
  ·exact .inr (by rw [q]; exact h0)
  ·rw [qx q] at hb; exact .inl hb
theorem Po.toSh {C:Ct} {own:List Nat} {m:Mo} {σ:St} {F H:Hp} {ρ0:Sl} {r:Out (D×Sl)} {Q:VK} (rp:Rep C.K own F H σ ρ0) (hm:m≠.any) (h:Po C own .sh σ F H r Q):Po C own m σ F H r Q:=by
 cases r with
 | ok p=>
  intro v F' H' rp' c mo
  cases m with
  | sh=>exact h v F' H' rp' c mo
  | fr=>
   obtain ⟨F2,rp2,gr,is,nw⟩:=Gz rp' (fun b z=>(rp.OA_there z).1) mo
   refine h v F2 H' rp2 ⟨c.keep,c.stay,c.grow.trans gr,fun b hb=>?_⟩ is
   rcases nw b hb with z | z
   ·exact c.new b z
   ·exact .inr (.inl z)
  | any=>exact absurd rfl hm
 | exc x=>exact h
 | bad=>exact h.elim
section
variable {X:Cx} {C:Ct} {own:List Nat} {a b e:Expr} {f fa fb:Sl->Out (D×Sl)} {m ma mb:Mo} {pos:Pos}
theorem ux (h:PE X e (tE C own m f)) (hm:m≠.any):PE X e (tE C own .sh f):=jR h fun _ _ _ ⟨F,ρ,rp,p⟩=>⟨F,ρ,rp,p.toSh rp hm⟩
noncomputable def qe (i:Nat):Sl->Out (D×Sl):=fun ρ=>match ρ[i]? with
 | some (some d)=>.ok (d,ρ)
 | _=>.bad
noncomputable def dC (d:D):Sl->Out (D×Sl):=fun ρ=>.ok (d,ρ)
theorem qd5 {i:Nat} {x:Str} (hN:X.N[i]?=some x) (hv:Vis X.env.scope x) (ho:i∉own) (hd:(x == ("__debug__":Str))=false:=by decide) (hcd:(x == ("__classdict__":Str))=false:=by decide):PE X (.Name x pos) (tE C own .sh (qe i)):=by
 refine jR (uW hN hv hd hcd) fun σ H Q ⟨F,ρ,rp,h⟩=>?_
 unfold qe at h
 cases e:ρ[i]? with
 | none=>rw [e] at h; exact h.elim
 | some o=>
  cases o with
  | none=>rw [e] at h; exact h.elim
  | some d=>
   rw [e] at h
   obtain ⟨v,h1,h2⟩:=rp.val i d ho e
   exact ⟨v,h1,h v F H rp .refl h2⟩
theorem wB {i:Nat} {x:Str} (hN:X.N[i]?=some x) (hv:Vis X.env.scope x) (ho:i∈own) (hd:(x == ("__debug__":Str))=false:=by decide) (hcd:(x == ("__classdict__":Str))=false:=by decide):PE X (.Name x pos) (tE C own .any (qe i)):=by
 refine jR (uW hN hv hd hcd) fun σ H Q ⟨F,ρ,rp,h⟩=>?_
 unfold qe at h
 cases e:ρ[i]? with
 | none=>rw [e] at h; exact h.elim
 | some o=>
  cases o with
  | none=>rw [e] at h; exact h.elim
  | some d=>
   rw [e] at h
   obtain ⟨a,h1,h2,h3⟩:=rp.ow i d ho e
   exact ⟨_,h1,h _ F H rp .refl (.inr ⟨a,rfl,h3⟩)⟩
theorem qd6 {v:V} {d:D} (h:PE X e (tC v)) (i:∀ F,Is C.K F v d):PE X e (tE C own .sh (dC d)):=jR h fun σ H Q ⟨F,ρ,rp,h⟩=>h v F H rp .refl (i F)
theorem qr {i j pos}:PE X (.Constant (.int i) j pos) (tE C own .sh (dC (.int i))):=qd6 qaV fun _=>.int i
theorem Jt {i j pos}:PE X (.Constant (.bool i) j pos) (tE C own .sh (dC (.bl i))):=qd6 qfJ fun _=>.bl i
theorem Ju {j pos}:PE X (.Constant .none j pos) (tE C own .sh (dC .non)):=qd6 qdv fun _=>.non
theorem wu {x j pos} (h:fC x<=sizeLine:=by decide):PE X (.Constant (.str x) j pos) (tE C own .sh (dC (.str x))):=qd6 qaW fun _=>.str h
theorem qb6 {x:Str} {v:V} {d:D} {u:Value} (hg:Gl X x) (hm:X.mg x=some u) (r:RelV v u) (i:∀ F,Is C.K F v d) (hd:(x == ("__debug__":Str))=false:=by decide):PE X (.Name x pos) (tE C own .sh (dC d)):=qd6 (qbJ hg hm r hd) i
noncomputable def uy (g:Int->Int->Out D):D->D->Out D
 | .int i,.int j=>g i j
 | _,_=>.bad
theorem TopIs.int {K:Frag} {F H:Hp} {v:V} {i:Int} (h:TopIs K F H v (.int i)):v=.int i:=by
 rcases h with h | ⟨a,_,h⟩
 ·cases h; rfl
 ·exact h.elim
theorem TopIs.str {K:Frag} {F H:Hp} {v:V} {x:Str} (h:TopIs K F H v (.str x)):v=.str x/\x.length<=sizeLine:=by
 rcases h with h | ⟨a,_,h⟩
 ·cases h; exact ⟨rfl,by assumption⟩
 ·exact h.elim
theorem TopIs.bl {K:Frag} {F H:Hp} {v:V} {x:Bool} (h:TopIs K F H v (.bl x)):v=.bl x:=by
 rcases h with h | ⟨a,_,h⟩
 ·cases h; rfl
 ·exact h.elim
theorem TopIs.non {K:Frag} {F H:Hp} {v:V} (h:TopIs K F H v .non):v=.non:=by
 rcases h with h | ⟨a,_,h⟩
 ·cases h; rfl
 ·exact h.elim
theorem TopIs.raw {K:Frag} {F H:Hp} {v u:V} (h:TopIs K F H v (.raw u)):v=u:=by
 rcases h with h | ⟨a,_,h⟩
 ·cases h; rfl
 ·exact h.elim
theorem TopIs.lst {K:Frag} {F H:Hp} {v:V} {ds:List D} (s:Same F H) (h:TopIs K F H v (.lst ds)):∃ a xs,v=.ref a/\SqL K H a xs/\IsL K F xs ds:=by
 rcases h with h | ⟨a,e,h⟩
 ·cases h with
  | lst h t=>exact ⟨_,_,rfl,s.seq h,t⟩
 ·obtain ⟨xs,e2,t⟩:=h
  exact ⟨a,xs,e,.inl (.inl e2),t⟩
theorem TopIs.tup {K:Frag} {F H:Hp} {v:V} {ds:List D} (s:Same F H) (h:TopIs K F H v (.tup ds)):∃ a xs,v=.ref a/\SqT K H a xs/\IsL K F xs ds:=by
 rcases h with h | ⟨a,e,h⟩
 ·cases h with
  | tup h t=>exact ⟨_,_,rfl,qD s h,t⟩
 ·exact h.elim
theorem TopIs.dct {K:Frag} {F H:Hp} {v:V} {ds:List (Key×D)} (s:Same F H) (h:TopIs K F H v (.dct ds)):∃ a kv,v=.ref a/\H a=some (.dK kv)/\IsK K F kv ds:=by
 rcases h with h | ⟨a,e,h⟩
 ·cases h with
  | dct h t=>exact ⟨_,_,rfl,s _ _ h,t⟩
 ·obtain ⟨xs,e2,t⟩:=h
  exact ⟨a,xs,e,e2,t⟩
theorem Wa {fn:Value->Value->Sem Value} {P:Int->Int->Prop} [∀ i j,Decidable (P i j)] {g:Int->Int->V} {gd:Int->Int->D} (ho:OpR X fn (rI P g)) (hg:∀ F i j,Is C.K F (g i j) (gd i j)) :
  OpD X C .sh fn (uy fun i j=>if P i j then .ok (gd i j) else .bad):=by
 intro pins s σ H x y v u Q I rx ry h
 obtain ⟨F,dx,dy,sb,tx,ty,po⟩:=h
 cases dx <;> try exact po.elim
 cases dy <;> try exact po.elim
 rename_i i j
 have po:PoV C .sh F H (if P i j then .ok (gd i j) else .bad) Q:=po
 obtain rfl:=tx.int
 obtain rfl:=ty.int
 by_cases q:P i j
 ·rw [if_pos q] at po
  exact ho pins s σ H _ _ v u Q I rx ry ⟨i,j,rfl,rfl,q,po (g i j) F H sb .refl (hg F i j)⟩
 ·rw [if_neg q] at po; exact po.elim
theorem KO {fn:Value->Value->Sem Value} {g:Int->Int->V} {gd:Int->Int->D} (ho:OpR X fn (rI0 g)) (hg:∀ F i j,Is C.K F (g i j) (gd i j)):OpD X C .sh fn (uy fun i j=>.ok (gd i j)):=by
 intro pins s σ H x y v u Q I rx ry h
 obtain ⟨F,dx,dy,sb,tx,ty,po⟩:=h
 cases dx <;> try exact po.elim
 cases dy <;> try exact po.elim
 rename_i i j
 obtain rfl:=tx.int
 obtain rfl:=ty.int
 exact ho pins s σ H _ _ v u Q I rx ry ⟨i,j,rfl,rfl,po (g i j) F H sb .refl (hg F i j)⟩
noncomputable def UA:D->D->Out D:=uy fun i j=>.ok (.int (i - j))
theorem Jv:OpD X C .sh (binaryOp .Sub) UA:=KO qdJ fun _ _ _=>.int _
instance:∀ i j,Decidable (CMul i j):=fun i j=>inferInstanceAs (Decidable (_\/_))
instance:∀ i j,Decidable (qdH i j):=fun i j=>inferInstanceAs (Decidable (_/\_))
noncomputable def Yl:D->D->Out D:=uy fun i j=>if CMul i j then .ok (.int (i * j)) else .bad
theorem Jw:OpD X C .sh (binaryOp .Mult) Yl:=Wa qdK fun _ _ _=>.int _
noncomputable def gj:D->D->Out D:=uy fun i j=>if 0 < j then .ok (.int (i % j)) else .bad
theorem wv:OpD X C .sh (binaryOp .Mod) gj:=Wa qdL fun _ _ _=>.int _
noncomputable def UB:D->D->Out D:=uy fun i j=>if qdH i j then .ok (.int (i / j)) else .bad
theorem KP:OpD X C .sh (binaryOp .FloorDiv) UB:=Wa qbR fun _ _ _=>.int _
noncomputable def uI (x y:Str):Bool:=decide (x.cps.toList < y.cps.toList)
noncomputable def ltD:D->D->Out D
 | .int i,.int j=>.ok (.bl (decide (i < j)))
 | .str x,.str y=>.ok (.bl (uI x y))
 | _,_=>.bad
theorem qgc:OpD X C .sh (compareOp .Lt) ltD:=by
 intro pins s σ H x y v u Q I rx ry h
 obtain ⟨F,dx,dy,sb,tx,ty,po⟩:=h
 cases dx <;> try exact po.elim
 ·cases dy <;> try exact po.elim
  obtain rfl:=tx.int
  obtain rfl:=ty.int
  exact qfW pins s σ H _ _ v u Q I rx ry ⟨_,_,rfl,rfl,po _ F H sb .refl (.bl _)⟩
 ·cases dy <;> try exact po.elim
  obtain ⟨rfl,_⟩:=tx.str
  obtain ⟨rfl,_⟩:=ty.str
  exact Yr pins s σ H _ _ v u Q I rx ry ⟨_,_,rfl,rfl,po _ F H sb .refl (.bl _)⟩
end
noncomputable def eqS:D->D->Option Bool
 | .non,.non=>some true
 | .non,.bl _=>some false
 | .non,.int _=>some false
 | .non,.str _=>some false
 | .non,.tup _=>some false
 | .non,.lst _=>some false
 | .bl _,.non=>some false
 | .bl a,.bl b=>some (a == b)
 | .bl a,.int b=>some ((if a then 1 else 0) == b)
 | .bl _,.str _=>some false
 | .bl _,.tup _=>some false
 | .bl _,.lst _=>some false
 | .int _,.non=>some false
 | .int a,.bl b=>some (a == (if b then 1 else 0))
 | .int a,.int b=>some (a == b)
 | .int _,.str _=>some false
 | .int _,.tup _=>some false
 | .int _,.lst _=>some false
 | .str _,.non=>some false
 | .str _,.bl _=>some false
 | .str _,.int _=>some false
 | .str a,.str b=>some (a == b)
 | .str _,.tup _=>some false
 | .str _,.lst _=>some false
 | .tup _,.non=>some false
 | .tup _,.bl _=>some false
 | .tup _,.int _=>some false
 | .tup _,.str _=>some false
 | .tup _,.lst _=>some false
 | .lst _,.non=>some false
 | .lst _,.bl _=>some false
 | .lst _,.int _=>some false
 | .lst _,.str _=>some false
 | .lst _,.tup _=>some false
 | _,_=>none
noncomputable def uc (f:D->D->Option Bool):List D->List D->Option Bool
 | x::xs,y::ys=>(f x y).bind fun a=>(uc f xs ys).bind fun b=>some (a&&b)
 | _,_=>some true
noncomputable def eqN:Nat->D->D->Option Bool
 | n+1,.tup xs,.tup ys=>(uc (eqN n) xs ys).map fun b=>b&&xs.length == ys.length
 | n+1,.lst xs,.lst ys=>if xs.length=ys.length then uc (eqN n) xs ys else some false
 | _,a,b=>eqS a b
theorem Wb {n:Nat} {a b:D} (h1:∀ xs ys,a=.tup xs->b≠.tup ys) (h2:∀ xs ys,a=.lst xs->b≠.lst ys):eqN n a b=eqS a b:=by
 cases n with
 | zero=>rfl
 | succ n=>
  cases a with
  | tup xs=>cases b with
   | tup ys=>exact absurd rfl (h1 xs ys rfl)
   | _=>rfl
  | lst xs=>cases b with
   | lst ys=>exact absurd rfl (h2 xs ys rfl)
   | _=>rfl
  | _=>rfl
noncomputable def itE (f:D->D->Option Bool) (xs ys:List D) (j:Nat):Bool:=((xs[j]?).bind fun x=>(ys[j]?).bind fun y=>f x y).getD false
theorem vJ {f:D->D->Option Bool}:∀ {xs ys:List D} {b:Bool},uc f xs ys=some b->b=(aF (min xs.length ys.length)).all (itE f xs ys)
 | [],ys,b,h=>by simp [uc] at h ⊢; exact h
 | x::xs,[],b,h=>by simp [uc] at h ⊢; exact h
 | x::xs,y::ys,b,h=>by
  unfold uc at h
  cases e:f x y with
  | none=>rw [e] at h; simp at h
  | some a=>
   cases e2:uc f xs ys with
   | none=>rw [e,e2] at h; simp at h
   | some c=>
    rw [e,e2] at h
    have h:(a&&c)=b:=by simpa using h
    have ih:=vJ e2
    have hm:min (x::xs).length (y::ys).length=min xs.length ys.length+1:=by simp only [ap]; omega
    rw [hm,List.range_succ_eq_map,fy,List.all_map]
    have e0:itE f (x::xs) (y::ys) 0=a:=by simp [itE,e]
    have e1:(itE f (x::xs) (y::ys)) ∘ Nat.succ=itE f xs ys:=by
     funext j
     simp [itE]
    rw [e0,e1,<-ih]
    exact h.symm
theorem YG {f:D->D->Option Bool}:∀ {xs ys:List D} {b:Bool},uc f xs ys=some b->∀ (j:Nat) (x y:D),xs[j]?=some x->ys[j]?=some y->f x y=some (itE f xs ys j)
 | [],ys,b,_,j,x,y,hx,_=>by simp at hx
 | x::xs,[],b,_,j,_,y,_,hy=>by simp at hy
 | x::xs,y::ys,b,h,0,x',y',hx,hy=>by
  simp at hx hy
  subst hx hy
  unfold uc at h
  cases e:f x y with
  | none=>rw [e] at h; simp at h
  | some a=>simp [itE,e]
 | x::xs,y::ys,b,h,j+1,x',y',hx,hy=>by
  unfold uc at h
  cases e:f x y with
  | none=>rw [e] at h; simp at h
  | some a=>
   cases e2:uc f xs ys with
   | none=>rw [e,e2] at h; simp at h
   | some c=>
    have q:=YG e2 j x' y' (by simpa using hx) (by simpa using hy)
    rw [q]
    simp [itE]
section
variable {X:Cx} {pins:List (Addr×Obj)} {σ:St} {F H:Hp} {s:Shared}
theorem YH (I:Inv X pins σ H s) (sb:Same F H):∀ (n:Nat) {v:V} {d e:D} {b:Bool},Is X.K F v d->Is X.K F v e->eqN n d e=some b->b=true:=by
 intro n
 induction n with
 | zero=>
  intro v d e b h1 h2 h
  cases h1 <;> cases h2 <;> simp [eqN,eqS] at h <;> try exact h.symm
  all_goals first
   | exact h
   | (rename_i p1 _ _ _ p2 _; obtain ⟨_,_,q1,_⟩:=I.list (sb.seq (by assumption)); obtain ⟨_,_,q2,_⟩:=I.tuple (qD sb (by assumption)); exact absurd rfl (ci q1.isList q2))
   | (rename_i p1 _ _ _ p2 _; obtain ⟨_,_,q1,_⟩:=I.list (sb.seq (by assumption)); obtain ⟨_,_,q2,_⟩:=I.tuple (qD sb (by assumption)); exact absurd rfl (ci q1.isList q2).symm)
   | skip
 | succ n ih=>
  have lists:∀ {xs:List V} {ds es:List D} {b:Bool},IsL X.K F xs ds->IsL X.K F xs es->uc (eqN n) ds es=some b->b=true:=by
   intro xs
   induction xs with
   | nil=>intro ds es b h1 h2 h; cases h1; cases h2; simp [uc] at h; exact h
   | cons x xs ihx=>
    intro ds es b h1 h2 h
    cases h1 with
    | cons a1 t1=>
     cases h2 with
     | cons a2 t2=>
      rename_i d ds e es
      unfold uc at h
      cases q:eqN n d e with
      | none=>rw [q] at h; simp at h
      | some a=>
       cases q2:uc (eqN n) ds es with
       | none=>rw [q,q2] at h; simp at h
       | some c=>
        rw [q,q2] at h
        rw [ih a1 a2 q,ihx t1 t2 q2] at h
        simpa using h.symm
  intro v d e b h1 h2 h
  cases h1 with
  | tup p1 t1=>
   cases h2 with
   | tup p2 t2=>
    have e:=I.tuple_inj (qD sb p1) (qD sb p2)
    subst e
    simp only [eqN] at h
    rename_i xs ds es
    cases q:uc (eqN n) ds es with
    | none=>rw [q] at h; simp at h
    | some c=>
     rw [q] at h
     have hl:ds.length=es.length:=by rw [<-t1.length,<-t2.length]
     have hb:(ds.length == es.length)=true:=by simp [hl]
     rw [lists t1 t2 q] at h
     simpa [hb] using h.symm
   | lst p2 t2=>
    obtain ⟨_,_,q1,_⟩:=I.list (sb.seq p2)
    obtain ⟨_,_,q2,_⟩:=I.tuple (qD sb p1)
    exact absurd rfl (ci q1.isList q2)
   | _=>simp [eqN,eqS] at h
  | lst p1 t1=>
   cases h2 with
   | lst p2 t2=>
    have e:=I.list_inj (sb.seq p1) (sb.seq p2)
    subst e
    simp only [eqN] at h
    have hl:=t1.length.symm.trans t2.length
    rw [if_pos hl] at h
    exact lists t1 t2 h
   | tup p2 t2=>
    obtain ⟨_,_,q1,_⟩:=I.list (sb.seq p1)
    obtain ⟨_,_,q2,_⟩:=I.tuple (qD sb p2)
    exact absurd rfl (ci q1.isList q2)
   | _=>simp [eqN,eqS] at h
  | _=>cases h2 <;> simp [eqN,eqS] at h <;> first | exact h.symm | exact h | skip
end
open PySem.SeqAt
section
variable {X:Cx} {pins:List (Addr×Obj)} {σ:St} {F H:Hp} {s:Shared}
theorem Vals.getE {xs:List V} {us:List Value} (r:Vals xs us) {j:Nat} (h:j < us.length):∃ x,xs[j]?=some x/\RelV x us[j]:=by
 have hl:=r.length
 have hj:j < xs.length:=by omega
 obtain ⟨u,e1,e2⟩:=Vals.get (i:=j) (x:=xs[j]) r (by simp [hj])
 refine ⟨xs[j],by simp [hj],?_⟩
 rw [af h] at e1
 cases e1
 exact e2
theorem ud {A:Around} {n:Nat} {xs ys:List V} {ds es:List D} {us ws:List Value} {b:Bool} (ih:∀ {v w:V} {d e:D} {u t:Value} {b:Bool},Is X.K F v d->Is X.K F w e->RelV v u->RelV w t->eqN n d e=some b->EqAt A s u t b)
  (r1:Vals xs us) (r2:Vals ys ws) (i1:IsL X.K F xs ds) (i2:IsL X.K F ys es) (h:uc (eqN n) ds es=some b) :
  ∀ j (h1:j < us.toArray.size) (h2:j < ws.toArray.size),EqAt A s us.toArray[j] ws.toArray[j] (itE (eqN n) ds es j):=by
 intro j h1 h2
 have h1':j < us.length:=by simpa using h1
 have h2':j < ws.length:=by simpa using h2
 obtain ⟨x,ex,rx⟩:=Vals.getE r1 h1'
 obtain ⟨y,ey,ry⟩:=Vals.getE r2 h2'
 obtain ⟨d,ed,idd⟩:=i1.get ex
 obtain ⟨e,ee,ie⟩:=i2.get ey
 have q:=YG h j d e ed ee
 simpa using ih idd ie rx ry q
theorem Wc {A:Around} {n:Nat} {a c:Addr} {xs ys:List V} {ds es:List D} {b:Bool} (I:Inv X pins σ H s) (ih:∀ {v w:V} {d e:D} {u t:Value} {b:Bool},Is X.K F v d->Is X.K F w e->RelV v u->RelV w t->eqN n d e=some b->EqAt A.in1 s u t b)
  (p1:SqT X.K H a xs) (p2:SqT X.K H c ys) (i1:IsL X.K F xs ds) (i2:IsL X.K F ys es) (h:eqN (n+1) (.tup ds) (.tup es)=some b) (hu:A.units < cLine):RcAt A s (.ref a) (.ref c) b:=by
 obtain ⟨us,r1,t1,_⟩:=I.tuple p1
 obtain ⟨ws,r2,t2,_⟩:=I.tuple p2
 simp only [eqN] at h
 cases q:uc (eqN n) ds es with
 | none=>rw [q] at h; simp at h
 | some k=>
  rw [q] at h
  have l1:us.toArray.size=ds.length:=by rw [aq,<-r1.length,i1.length]
  have l2:ws.toArray.size=es.length:=by rw [aq,<-r2.length,i2.length]
  have z:=RcAt.tuples (A:=A) t1 t2 hu (ud (A:=A.in1) ih r1 r2 i1 i2 q)
  rw [l1,l2,<-vJ q] at z
  have e:b=(k&&ds.length == es.length):=by simpa using h.symm
  rw [e]; exact z
theorem We {A:Around} {n:Nat} {a c:Addr} {xs ys:List V} {ds es:List D} {b:Bool} (I:Inv X pins σ H s) (ih:∀ {v w:V} {d e:D} {u t:Value} {b:Bool},Is X.K F v d->Is X.K F w e->RelV v u->RelV w t->eqN n d e=some b->EqAt A.in1 s u t b)
  (p1:SqL X.K H a xs) (p2:SqL X.K H c ys) (i1:IsL X.K F xs ds) (i2:IsL X.K F ys es) (h:eqN (n+1) (.lst ds) (.lst es)=some b) (hu:A.units < cLine):RcAt A s (.ref a) (.ref c) b:=by
 obtain ⟨us,r1,t1,_⟩:=I.list p1
 obtain ⟨ws,r2,t2,_⟩:=I.list p2
 have l1:us.toArray.size=ds.length:=by rw [aq,<-r1.length,i1.length]
 have l2:ws.toArray.size=es.length:=by rw [aq,<-r2.length,i2.length]
 simp only [eqN] at h
 by_cases hl:ds.length=es.length
 ·rw [if_pos hl] at h
  have z:=RcAt.lists (A:=A) t1.isList t2.isList (by omega) hu (ud (A:=A.in1) ih r1 r2 i1 i2 h)
  have e:=vJ h
  rw [l1] at z
  rw [e,show min ds.length es.length=ds.length by omega]
  exact z
 ·rw [if_neg hl] at h
  cases h
  exact RcAt.lists_lengths t1.isList t2.isList (bne_iff_ne.mpr (by rw [l1,l2]; exact hl)) hu
theorem Wf (I:Inv X pins σ H s) (sb:Same F H):∀ (n:Nat) {A:Around} {v w:V} {d e:D} {u t:Value} {b:Bool},A.units+n < cLine->Is X.K F v d->Is X.K F w e->RelV v u->RelV w t->eqN n d e=some b->EqAt A s u t b:=by
 intro n
 induction n with
 | zero=>
  intro A v w d e u t b hu h1 h2 rx ry h
  have hu:A.units < cLine:=by omega
  have h:eqS d e=some b:=h
  cases h1 with
  | non=>cases rx; cases h2 with
   | non=>cases ry; cases h; exact EqAt.same _
   | bl=>cases ry; cases h; exact EqAt.none_bool _
   | int=>obtain ⟨_,rfl⟩:=ry; cases h; exact EqAt.none_int _ _
   | str=>obtain ⟨_,rfl⟩:=ry; cases h; exact EqAt.none_str _ _
   | tup p _=>cases ry; cases h; obtain ⟨_,_,q,_⟩:=I.tuple (qD sb p); exact EqAt.none_tuple q hu
   | lst p _=>cases ry; cases h; obtain ⟨_,_,q,_⟩:=I.list (sb.seq p); exact EqAt.none_list q.isList hu
   | dct=>cases h
   | raw=>cases h
   | xcp=>cases h
   | ins=>cases h
   | at_=>cases h
  | bl=>cases rx; cases h2 with
   | non=>cases ry; cases h; exact EqAt.bool_none _
   | bl=>cases ry; cases h; exact EqAt.bool_bool _ _
   | int=>obtain ⟨_,rfl⟩:=ry; cases h; exact EqAt.bool_int _ _ _
   | str=>obtain ⟨_,rfl⟩:=ry; cases h; exact EqAt.bool_str _ _ _
   | tup p _=>cases ry; cases h; obtain ⟨_,_,q,_⟩:=I.tuple (qD sb p); exact EqAt.bool_tuple _ q hu
   | lst p _=>cases ry; cases h; obtain ⟨_,_,q,_⟩:=I.list (sb.seq p); exact EqAt.bool_list _ q.isList hu
   | dct=>cases h
   | raw=>cases h
   | xcp=>cases h
   | ins=>cases h
   | at_=>cases h
  | int=>obtain ⟨_,rfl⟩:=rx; cases h2 with
   | non=>cases ry; cases h; exact EqAt.int_none _ _
   | bl=>cases ry; cases h; exact EqAt.int_bool _ _ _
   | int=>obtain ⟨_,rfl⟩:=ry; cases h; exact EqAt.int_int _ _ _ _
   | str=>obtain ⟨_,rfl⟩:=ry; cases h; exact EqAt.int_str _ _ _ _
   | tup p _=>cases ry; cases h; obtain ⟨_,_,q,_⟩:=I.tuple (qD sb p); exact EqAt.int_tuple _ _ q hu
   | lst p _=>cases ry; cases h; obtain ⟨_,_,q,_⟩:=I.list (sb.seq p); exact EqAt.int_list _ _ q.isList hu
   | dct=>cases h
   | raw=>cases h
   | xcp=>cases h
   | ins=>cases h
   | at_=>cases h
  | str=>obtain ⟨_,rfl⟩:=rx; cases h2 with
   | non=>cases ry; cases h; exact EqAt.str_none _ _
   | bl=>cases ry; cases h; exact EqAt.str_bool _ _ _
   | int=>obtain ⟨_,rfl⟩:=ry; cases h; exact EqAt.str_int _ _ _ _
   | str=>obtain ⟨_,rfl⟩:=ry; cases h; exact EqAt.str_str _ _ _ _
   | tup p _=>cases ry; cases h; obtain ⟨_,_,q,_⟩:=I.tuple (qD sb p); exact EqAt.str_tuple _ _ q hu
   | lst p _=>cases ry; cases h; obtain ⟨_,_,q,_⟩:=I.list (sb.seq p); exact EqAt.str_list _ _ q.isList hu
   | dct=>cases h
   | raw=>cases h
   | xcp=>cases h
   | ins=>cases h
   | at_=>cases h
  | tup p0 _=>
   cases rx
   obtain ⟨_,_,q0,_⟩:=I.tuple (qD sb p0)
   cases h2 with
   | non=>cases ry; cases h; exact EqAt.tuple_none q0 hu
   | bl=>cases ry; cases h; exact EqAt.tuple_bool _ q0 hu
   | int=>obtain ⟨_,rfl⟩:=ry; cases h; exact EqAt.tuple_int _ _ q0 hu
   | str=>obtain ⟨_,rfl⟩:=ry; cases h; exact EqAt.tuple_str _ _ q0 hu
   | tup p _=>cases h
   | lst p _=>cases ry; cases h; obtain ⟨_,_,q,_⟩:=I.list (sb.seq p); exact EqAt.tuple_list q0 q.isList hu
   | dct=>cases h
   | raw=>cases h
   | xcp=>cases h
   | ins=>cases h
   | at_=>cases h
  | lst p0 _=>
   cases rx
   obtain ⟨_,_,q0,_⟩:=I.list (sb.seq p0)
   cases h2 with
   | non=>cases ry; cases h; exact EqAt.list_none q0.isList hu
   | bl=>cases ry; cases h; exact EqAt.list_bool _ q0.isList hu
   | int=>obtain ⟨_,rfl⟩:=ry; cases h; exact EqAt.list_int _ _ q0.isList hu
   | str=>obtain ⟨_,rfl⟩:=ry; cases h; exact EqAt.list_str _ _ q0.isList hu
   | tup p _=>cases ry; cases h; obtain ⟨_,_,q,_⟩:=I.tuple (qD sb p); exact EqAt.list_tuple q0.isList q hu
   | lst p _=>cases h
   | dct=>cases h
   | raw=>cases h
   | xcp=>cases h
   | ins=>cases h
   | at_=>cases h
  | dct=>cases h2 <;> cases h
  | raw=>cases h2 <;> cases h
  | xcp=>cases h2 <;> cases h
  | ins=>cases h2 <;> cases h
  | at_=>cases h2 <;> cases h
 | succ n ih=>
  intro A v w d e u t b hu h1 h2 rx ry h
  have hu1:A.in1.units+n < cLine:=by show A.units+1+n < cLine; omega
  by_cases both:(∃ xs ys,d=.tup xs/\e=.tup ys)\/(∃ xs ys,d=.lst xs/\e=.lst ys)
  ·rcases both with ⟨ds,es,rfl,rfl⟩ | ⟨ds,es,rfl,rfl⟩
   ·have h1':=h1
    have h2':=h2
    cases h1 with
    | tup p1 t1=>
     cases h2 with
     | tup p2 t2=>
      rename_i a xs c ys
      cases rx
      cases ry
      by_cases ne:a=c
      ·subst ne
       rw [YH I sb (n+1) h1' h2' h]
       exact EqAt.same _
      ·exact EqAt.of_refs ne (Wc I (fun a1 a2 a3 a4 a5=>ih hu1 a1 a2 a3 a4 a5) (qD sb p1) (qD sb p2) t1 t2 h (by omega))
   ·have h1':=h1
    have h2':=h2
    cases h1 with
    | lst p1 t1=>
     cases h2 with
     | lst p2 t2=>
      rename_i a xs c ys
      cases rx
      cases ry
      by_cases ne:a=c
      ·subst ne
       rw [YH I sb (n+1) h1' h2' h]
       exact EqAt.same _
      ·exact EqAt.of_refs ne (We I (fun a1 a2 a3 a4 a5=>ih hu1 a1 a2 a3 a4 a5) (sb.seq p1) (sb.seq p2) t1 t2 h (by omega))
  ·have e1:eqN (n+1) d e=eqS d e:=Wb (fun xs ys a1 a2=>both (.inl ⟨xs,ys,a1,a2⟩)) (fun xs ys a1 a2=>both (.inr ⟨xs,ys,a1,a2⟩))
   have e2:eqN n d e=eqS d e:=Wb (fun xs ys a1 a2=>both (.inl ⟨xs,ys,a1,a2⟩)) (fun xs ys a1 a2=>both (.inr ⟨xs,ys,a1,a2⟩))
   exact ih (by omega) h1 h2 rx ry (by rw [e2,<-e1]; exact h)
end
end L2.D2
namespace L2.D2
open PySem PySem.Spec PyProof.Rows
open PySem.SeqAt
variable {X:Cx} {A:Around} {n:Nat} {b:Bool}
section
variable {pins:List (Addr×Obj)} {σ:St} {F H:Hp} {s:Shared}
theorem GA {a c:Addr} {xs ys:List V} {ds es:List D} (I:Inv X pins σ H s) (ih:∀ {v w:V} {d e:D} {u t:Value} {b:Bool},Is X.K F v d->Is X.K F w e->RelV v u->RelV w t->eqN n d e=some b->EqAt A.in1 s u t b)
  (p1:SqT X.K H a xs) (p2:SqT X.K H c ys) (i1:IsL X.K F xs ds) (i2:IsL X.K F ys es) (h:eqN (n+1) (.tup ds) (.tup es)=some b) (hu:A.units < cLine):RcNeAt A s (.ref a) (.ref c) (!b):=by
 obtain ⟨us,r1,t1,_⟩:=I.tuple p1
 obtain ⟨ws,r2,t2,_⟩:=I.tuple p2
 simp only [eqN] at h
 cases q:uc (eqN n) ds es with
 | none=>rw [q] at h; simp at h
 | some k=>
  rw [q] at h
  have l1:us.toArray.size=ds.length:=by rw [aq,<-r1.length,i1.length]
  have l2:ws.toArray.size=es.length:=by rw [aq,<-r2.length,i2.length]
  have z:=RcNeAt.tuples (A:=A) t1 t2 hu (ud (A:=A.in1) ih r1 r2 i1 i2 q)
  rw [l1,l2,<-vJ q] at z
  have e:b=(k&&ds.length == es.length):=by simpa using h.symm
  rw [e]; exact z
theorem GB {a c:Addr} {xs ys:List V} {ds es:List D} (I:Inv X pins σ H s) (ih:∀ {v w:V} {d e:D} {u t:Value} {b:Bool},Is X.K F v d->Is X.K F w e->RelV v u->RelV w t->eqN n d e=some b->EqAt A.in1 s u t b)
  (p1:SqL X.K H a xs) (p2:SqL X.K H c ys) (i1:IsL X.K F xs ds) (i2:IsL X.K F ys es) (h:eqN (n+1) (.lst ds) (.lst es)=some b) (hu:A.units < cLine):RcNeAt A s (.ref a) (.ref c) (!b):=by
 obtain ⟨us,r1,t1,_⟩:=I.list p1
 obtain ⟨ws,r2,t2,_⟩:=I.list p2
 have l1:us.toArray.size=ds.length:=by rw [aq,<-r1.length,i1.length]
 have l2:ws.toArray.size=es.length:=by rw [aq,<-r2.length,i2.length]
 simp only [eqN] at h
 by_cases hl:ds.length=es.length
 ·rw [if_pos hl] at h
  have z:=RcNeAt.lists (A:=A) t1.isList t2.isList (by omega) hu (ud (A:=A.in1) ih r1 r2 i1 i2 h)
  have e:=vJ h
  rw [l1] at z
  rw [e,show min ds.length es.length=ds.length by omega]
  exact z
 ·rw [if_neg hl] at h
  cases h
  exact RcNeAt.lists_lengths t1.isList t2.isList (bne_iff_ne.mpr (by rw [l1,l2]; exact hl)) hu
theorem qd7 (I:Inv X pins σ H s) (sb:Same F H) {v w:V} {d e:D} {u t:Value} (hu':A.units+n+1 < cLine) (t1:TopIs X.K F H v d) (t2:TopIs X.K F H w e) (rx:RelV v u) (ry:RelV w t) (h:eqN (n+1) d e=some b):RcAt A s u t b:=by
 have hu:A.units < cLine:=by omega
 have ih:∀ {v w:V} {d e:D} {u t:Value} {b:Bool},Is X.K F v d->Is X.K F w e->RelV v u->RelV w t->eqN n d e=some b->EqAt A.in1 s u t b:=fun a1 a2 a3 a4 a5=>Wf I sb n (by show A.units+1+n < cLine; omega) a1 a2 a3 a4 a5
 cases d with
 | non  =>
  obtain rfl:=t1.non; cases rx
  cases e with
  | non  => obtain rfl:=t2.non; cases ry; cases h; exact RcAt.none_none 
  | bl y=>obtain rfl:=t2.bl; cases ry; cases h; exact RcAt.none_bool _
  | int y=>obtain rfl:=t2.int; obtain ⟨_,rfl⟩:=ry; cases h; exact RcAt.none_int _ _
  | str y=>obtain ⟨rfl,_⟩:=t2.str; obtain ⟨_,rfl⟩:=ry; cases h; exact RcAt.none_str _ _
  | tup y=>obtain ⟨c,ys,rfl,p2,i2⟩:=t2.tup sb; cases ry; obtain ⟨_,_,q2,_⟩:=I.tuple p2; cases h; exact RcAt.none_tuple  q2 hu
  | lst y=>obtain ⟨c,ys,rfl,p2,i2⟩:=t2.lst sb; cases ry; obtain ⟨_,_,q2,_⟩:=I.list p2; cases h; exact RcAt.none_list  q2.isList hu
  | dct y=>cases h
  | raw y=>cases h
  | xcp y=>cases h
  | ins y z=>cases h
  | at_ y z=>cases h
 | bl x=>
  obtain rfl:=t1.bl; cases rx
  cases e with
  | non  => obtain rfl:=t2.non; cases ry; cases h; exact RcAt.bool_none _
  | bl y=>obtain rfl:=t2.bl; cases ry; cases h; exact RcAt.bool_bool _ _
  | int y=>obtain rfl:=t2.int; obtain ⟨_,rfl⟩:=ry; cases h; exact RcAt.bool_int _ _ _
  | str y=>obtain ⟨rfl,_⟩:=t2.str; obtain ⟨_,rfl⟩:=ry; cases h; exact RcAt.bool_str _ _ _
  | tup y=>obtain ⟨c,ys,rfl,p2,i2⟩:=t2.tup sb; cases ry; obtain ⟨_,_,q2,_⟩:=I.tuple p2; cases h; exact RcAt.bool_tuple _ q2 hu
  | lst y=>obtain ⟨c,ys,rfl,p2,i2⟩:=t2.lst sb; cases ry; obtain ⟨_,_,q2,_⟩:=I.list p2; cases h; exact RcAt.bool_list _ q2.isList hu
  | dct y=>cases h
  | raw y=>cases h
  | xcp y=>cases h
  | ins y z=>cases h
  | at_ y z=>cases h
 | int x=>
  obtain rfl:=t1.int; obtain ⟨_,rfl⟩:=rx
  cases e with
  | non  => obtain rfl:=t2.non; cases ry; cases h; exact RcAt.int_none _ _
  | bl y=>obtain rfl:=t2.bl; cases ry; cases h; exact RcAt.int_bool _ _ _
  | int y=>obtain rfl:=t2.int; obtain ⟨_,rfl⟩:=ry; cases h; exact RcAt.int_int _ _ _ _
  | str y=>obtain ⟨rfl,_⟩:=t2.str; obtain ⟨_,rfl⟩:=ry; cases h; exact RcAt.int_str _ _ _ _
  | tup y=>obtain ⟨c,ys,rfl,p2,i2⟩:=t2.tup sb; cases ry; obtain ⟨_,_,q2,_⟩:=I.tuple p2; cases h; exact RcAt.int_tuple _ _ q2 hu
  | lst y=>obtain ⟨c,ys,rfl,p2,i2⟩:=t2.lst sb; cases ry; obtain ⟨_,_,q2,_⟩:=I.list p2; cases h; exact RcAt.int_list _ _ q2.isList hu
  | dct y=>cases h
  | raw y=>cases h
  | xcp y=>cases h
  | ins y z=>cases h
  | at_ y z=>cases h
 | str x=>
  obtain ⟨rfl,_⟩:=t1.str; obtain ⟨_,rfl⟩:=rx
  cases e with
  | non  => obtain rfl:=t2.non; cases ry; cases h; exact RcAt.str_none _ _
  | bl y=>obtain rfl:=t2.bl; cases ry; cases h; exact RcAt.str_bool _ _ _
  | int y=>obtain rfl:=t2.int; obtain ⟨_,rfl⟩:=ry; cases h; exact RcAt.str_int _ _ _ _
  | str y=>obtain ⟨rfl,_⟩:=t2.str; obtain ⟨_,rfl⟩:=ry; cases h; exact RcAt.str_str _ _ _ _
  | tup y=>obtain ⟨c,ys,rfl,p2,i2⟩:=t2.tup sb; cases ry; obtain ⟨_,_,q2,_⟩:=I.tuple p2; cases h; exact RcAt.str_tuple _ _ q2 hu
  | lst y=>obtain ⟨c,ys,rfl,p2,i2⟩:=t2.lst sb; cases ry; obtain ⟨_,_,q2,_⟩:=I.list p2; cases h; exact RcAt.str_list _ _ q2.isList hu
  | dct y=>cases h
  | raw y=>cases h
  | xcp y=>cases h
  | ins y z=>cases h
  | at_ y z=>cases h
 | tup x=>
  obtain ⟨a,xs,rfl,p1,i1⟩:=t1.tup sb; cases rx; obtain ⟨_,_,q1,_⟩:=I.tuple p1
  cases e with
  | non  => obtain rfl:=t2.non; cases ry; cases h; exact RcAt.tuple_none  q1 hu
  | bl y=>obtain rfl:=t2.bl; cases ry; cases h; exact RcAt.tuple_bool _ q1 hu
  | int y=>obtain rfl:=t2.int; obtain ⟨_,rfl⟩:=ry; cases h; exact RcAt.tuple_int _ _ q1 hu
  | str y=>obtain ⟨rfl,_⟩:=t2.str; obtain ⟨_,rfl⟩:=ry; cases h; exact RcAt.tuple_str _ _ q1 hu
  | tup y=>obtain ⟨c,ys,rfl,p2,i2⟩:=t2.tup sb; cases ry; obtain ⟨_,_,q2,_⟩:=I.tuple p2; exact Wc I ih p1 p2 i1 i2 h hu
  | lst y=>obtain ⟨c,ys,rfl,p2,i2⟩:=t2.lst sb; cases ry; obtain ⟨_,_,q2,_⟩:=I.list p2; cases h; exact RcAt.tuple_list q1 q2.isList hu
  | dct y=>cases h
  | raw y=>cases h
  | xcp y=>cases h
  | ins y z=>cases h
  | at_ y z=>cases h
 | lst x=>
  obtain ⟨a,xs,rfl,p1,i1⟩:=t1.lst sb; cases rx; obtain ⟨_,_,q1,_⟩:=I.list p1
  cases e with
  | non  => obtain rfl:=t2.non; cases ry; cases h; exact RcAt.list_none  q1.isList hu
  | bl y=>obtain rfl:=t2.bl; cases ry; cases h; exact RcAt.list_bool _ q1.isList hu
  | int y=>obtain rfl:=t2.int; obtain ⟨_,rfl⟩:=ry; cases h; exact RcAt.list_int _ _ q1.isList hu
  | str y=>obtain ⟨rfl,_⟩:=t2.str; obtain ⟨_,rfl⟩:=ry; cases h; exact RcAt.list_str _ _ q1.isList hu
  | tup y=>obtain ⟨c,ys,rfl,p2,i2⟩:=t2.tup sb; cases ry; obtain ⟨_,_,q2,_⟩:=I.tuple p2; cases h; exact RcAt.list_tuple q1.isList q2 hu
  | lst y=>obtain ⟨c,ys,rfl,p2,i2⟩:=t2.lst sb; cases ry; obtain ⟨_,_,q2,_⟩:=I.list p2; exact We I ih p1 p2 i1 i2 h hu
  | dct y=>cases h
  | raw y=>cases h
  | xcp y=>cases h
  | ins y z=>cases h
  | at_ y z=>cases h
 | dct x=>cases e <;> cases h
 | raw x=>cases e <;> cases h
 | xcp x=>cases e <;> cases h
 | ins x z=>cases e <;> cases h
 | at_ x z=>cases e <;> cases h
theorem qd8 (I:Inv X pins σ H s) (sb:Same F H) {v w:V} {d e:D} {u t:Value} (hu':A.units+n+1 < cLine) (t1:TopIs X.K F H v d) (t2:TopIs X.K F H w e) (rx:RelV v u) (ry:RelV w t) (h:eqN (n+1) d e=some b):RcNeAt A s u t (!b):=by
 have hu:A.units < cLine:=by omega
 have ih:∀ {v w:V} {d e:D} {u t:Value} {b:Bool},Is X.K F v d->Is X.K F w e->RelV v u->RelV w t->eqN n d e=some b->EqAt A.in1 s u t b:=fun a1 a2 a3 a4 a5=>Wf I sb n (by show A.units+1+n < cLine; omega) a1 a2 a3 a4 a5
 cases d with
 | non  =>
  obtain rfl:=t1.non; cases rx
  cases e with
  | non  => obtain rfl:=t2.non; cases ry; cases h; exact RcNeAt.none_none 
  | bl y=>obtain rfl:=t2.bl; cases ry; cases h; exact RcNeAt.none_bool _
  | int y=>obtain rfl:=t2.int; obtain ⟨_,rfl⟩:=ry; cases h; exact RcNeAt.none_int _ _
  | str y=>obtain ⟨rfl,_⟩:=t2.str; obtain ⟨_,rfl⟩:=ry; cases h; exact RcNeAt.none_str _ _
  | tup y=>obtain ⟨c,ys,rfl,p2,i2⟩:=t2.tup sb; cases ry; obtain ⟨_,_,q2,_⟩:=I.tuple p2; cases h; exact RcNeAt.none_tuple  q2 hu
  | lst y=>obtain ⟨c,ys,rfl,p2,i2⟩:=t2.lst sb; cases ry; obtain ⟨_,_,q2,_⟩:=I.list p2; cases h; exact RcNeAt.none_list  q2.isList hu
  | dct y=>cases h
  | raw y=>cases h
  | xcp y=>cases h
  | ins y z=>cases h
  | at_ y z=>cases h
 | bl x=>
  obtain rfl:=t1.bl; cases rx
  cases e with
  | non  => obtain rfl:=t2.non; cases ry; cases h; exact RcNeAt.bool_none _
  | bl y=>obtain rfl:=t2.bl; cases ry; cases h; exact RcNeAt.bool_bool _ _
  | int y=>obtain rfl:=t2.int; obtain ⟨_,rfl⟩:=ry; cases h; exact RcNeAt.bool_int _ _ _
  | str y=>obtain ⟨rfl,_⟩:=t2.str; obtain ⟨_,rfl⟩:=ry; cases h; exact RcNeAt.bool_str _ _ _
  | tup y=>obtain ⟨c,ys,rfl,p2,i2⟩:=t2.tup sb; cases ry; obtain ⟨_,_,q2,_⟩:=I.tuple p2; cases h; exact RcNeAt.bool_tuple _ q2 hu
  | lst y=>obtain ⟨c,ys,rfl,p2,i2⟩:=t2.lst sb; cases ry; obtain ⟨_,_,q2,_⟩:=I.list p2; cases h; exact RcNeAt.bool_list _ q2.isList hu
  | dct y=>cases h
  | raw y=>cases h
  | xcp y=>cases h
  | ins y z=>cases h
  | at_ y z=>cases h
 | int x=>
  obtain rfl:=t1.int; obtain ⟨_,rfl⟩:=rx
  cases e with
  | non  => obtain rfl:=t2.non; cases ry; cases h; exact RcNeAt.int_none _ _
  | bl y=>obtain rfl:=t2.bl; cases ry; cases h; exact RcNeAt.int_bool _ _ _
  | int y=>obtain rfl:=t2.int; obtain ⟨_,rfl⟩:=ry; cases h; exact RcNeAt.int_int _ _ _ _
  | str y=>obtain ⟨rfl,_⟩:=t2.str; obtain ⟨_,rfl⟩:=ry; cases h; exact RcNeAt.int_str _ _ _ _
  | tup y=>obtain ⟨c,ys,rfl,p2,i2⟩:=t2.tup sb; cases ry; obtain ⟨_,_,q2,_⟩:=I.tuple p2; cases h; exact RcNeAt.int_tuple _ _ q2 hu
  | lst y=>obtain ⟨c,ys,rfl,p2,i2⟩:=t2.lst sb; cases ry; obtain ⟨_,_,q2,_⟩:=I.list p2; cases h; exact RcNeAt.int_list _ _ q2.isList hu
  | dct y=>cases h
  | raw y=>cases h
  | xcp y=>cases h
  | ins y z=>cases h
  | at_ y z=>cases h
 | str x=>
  obtain ⟨rfl,_⟩:=t1.str; obtain ⟨_,rfl⟩:=rx
  cases e with
  | non  => obtain rfl:=t2.non; cases ry; cases h; exact RcNeAt.str_none _ _
  | bl y=>obtain rfl:=t2.bl; cases ry; cases h; exact RcNeAt.str_bool _ _ _
  | int y=>obtain rfl:=t2.int; obtain ⟨_,rfl⟩:=ry; cases h; exact RcNeAt.str_int _ _ _ _
  | str y=>obtain ⟨rfl,_⟩:=t2.str; obtain ⟨_,rfl⟩:=ry; cases h; exact RcNeAt.str_str _ _ _ _
  | tup y=>obtain ⟨c,ys,rfl,p2,i2⟩:=t2.tup sb; cases ry; obtain ⟨_,_,q2,_⟩:=I.tuple p2; cases h; exact RcNeAt.str_tuple _ _ q2 hu
  | lst y=>obtain ⟨c,ys,rfl,p2,i2⟩:=t2.lst sb; cases ry; obtain ⟨_,_,q2,_⟩:=I.list p2; cases h; exact RcNeAt.str_list _ _ q2.isList hu
  | dct y=>cases h
  | raw y=>cases h
  | xcp y=>cases h
  | ins y z=>cases h
  | at_ y z=>cases h
 | tup x=>
  obtain ⟨a,xs,rfl,p1,i1⟩:=t1.tup sb; cases rx; obtain ⟨_,_,q1,_⟩:=I.tuple p1
  cases e with
  | non  => obtain rfl:=t2.non; cases ry; cases h; exact RcNeAt.tuple_none  q1 hu
  | bl y=>obtain rfl:=t2.bl; cases ry; cases h; exact RcNeAt.tuple_bool _ q1 hu
  | int y=>obtain rfl:=t2.int; obtain ⟨_,rfl⟩:=ry; cases h; exact RcNeAt.tuple_int _ _ q1 hu
  | str y=>obtain ⟨rfl,_⟩:=t2.str; obtain ⟨_,rfl⟩:=ry; cases h; exact RcNeAt.tuple_str _ _ q1 hu
  | tup y=>obtain ⟨c,ys,rfl,p2,i2⟩:=t2.tup sb; cases ry; obtain ⟨_,_,q2,_⟩:=I.tuple p2; exact GA I ih p1 p2 i1 i2 h hu
  | lst y=>obtain ⟨c,ys,rfl,p2,i2⟩:=t2.lst sb; cases ry; obtain ⟨_,_,q2,_⟩:=I.list p2; cases h; exact RcNeAt.tuple_list q1 q2.isList hu
  | dct y=>cases h
  | raw y=>cases h
  | xcp y=>cases h
  | ins y z=>cases h
  | at_ y z=>cases h
 | lst x=>
  obtain ⟨a,xs,rfl,p1,i1⟩:=t1.lst sb; cases rx; obtain ⟨_,_,q1,_⟩:=I.list p1
  cases e with
  | non  => obtain rfl:=t2.non; cases ry; cases h; exact RcNeAt.list_none  q1.isList hu
  | bl y=>obtain rfl:=t2.bl; cases ry; cases h; exact RcNeAt.list_bool _ q1.isList hu
  | int y=>obtain rfl:=t2.int; obtain ⟨_,rfl⟩:=ry; cases h; exact RcNeAt.list_int _ _ q1.isList hu
  | str y=>obtain ⟨rfl,_⟩:=t2.str; obtain ⟨_,rfl⟩:=ry; cases h; exact RcNeAt.list_str _ _ q1.isList hu
  | tup y=>obtain ⟨c,ys,rfl,p2,i2⟩:=t2.tup sb; cases ry; obtain ⟨_,_,q2,_⟩:=I.tuple p2; cases h; exact RcNeAt.list_tuple q1.isList q2 hu
  | lst y=>obtain ⟨c,ys,rfl,p2,i2⟩:=t2.lst sb; cases ry; obtain ⟨_,_,q2,_⟩:=I.list p2; exact GB I ih p1 p2 i1 i2 h hu
  | dct y=>cases h
  | raw y=>cases h
  | xcp y=>cases h
  | ins y z=>cases h
  | at_ y z=>cases h
 | dct x=>cases e <;> cases h
 | raw x=>cases e <;> cases h
 | xcp x=>cases e <;> cases h
 | ins x z=>cases e <;> cases h
 | at_ x z=>cases e <;> cases h
end
noncomputable def eqD (a b:D):Out D:=match eqN 8 a b with
 | some c=>.ok (.bl c)
 | none=>.bad
noncomputable def neD (a b:D):Out D:=match eqN 8 a b with
 | some c=>.ok (.bl (!c))
 | none=>.bad
section
variable {C:Ct}
theorem yO (hK:C.K=X.K) (hu:X.A.units+64 < cLine):OpD X C .sh (compareOp .Eq) eqD:=by
 intro pins s σ H x y v u Q I rx ry h
 obtain ⟨F,dx,dy,sb,tx,ty,po⟩:=h
 rw [hK] at tx ty
 unfold eqD at po
 cases e:eqN 8 dx dy with
 | none=>rw [e] at po; exact po.elim
 | some c=>
  rw [e] at po
  exact qd7 I sb (n:=7) (by omega) tx ty rx ry e _ _ _ _ ⟨.bl c,H,I,rfl,po _ F H sb .refl (.bl _)⟩
theorem YI (hK:C.K=X.K) (hu:X.A.units+64 < cLine):OpD X C .sh (compareOp .NotEq) neD:=by
 intro pins s σ H x y v u Q I rx ry h
 obtain ⟨F,dx,dy,sb,tx,ty,po⟩:=h
 rw [hK] at tx ty
 unfold neD at po
 cases e:eqN 8 dx dy with
 | none=>rw [e] at po; exact po.elim
 | some c=>
  rw [e] at po
  exact qd8 I sb (n:=7) (by omega) tx ty rx ry e _ _ _ _ ⟨.bl _,H,I,rfl,po _ F H sb .refl (.bl _)⟩
end
end L2.D2
namespace L2.D2
open PySem PySem.Spec PyProof.Rows
open PySem.SeqAt
variable {X:Cx} {pins:List (Addr×Obj)} {σ:St} {F H:Hp} {s:Shared} {n:Nat} {v:V} {d e:D} {b:Bool}
section
theorem qb7 (I:Inv X pins σ H s) (sb:Same F H):∀ (n:Nat) {v:V} {d d' e:D} {b b':Bool},Is X.K F v d->Is X.K F v d'->eqN n d e=some b->eqN n d' e=some b'->b=b':=by
 have notTL:∀ {a:Addr} {xs ys:List V},SqT X.K F a xs->SqL X.K F a ys->False:=fun p q=>by
  obtain ⟨_,_,q1,_⟩:=I.list (sb.seq q)
  obtain ⟨_,_,q2,_⟩:=I.tuple (qD sb p)
  exact absurd rfl (ne_of_list_tuple q1.isList q2)
 intro n
 induction n with
 | zero=>
  intro v d d' e b b' h1 h2 e1 e2
  have e1:eqS d e=some b:=e1
  have e2:eqS d' e=some b':=e2
  cases h1 <;> cases h2 <;> cases e <;> simp only [eqS] at e1 e2 <;> first
   | (cases e1; cases e2; rfl)
   | (cases e1; done)
   | (cases e2; done)
   | exact (notTL (by assumption) (by assumption)).elim
 | succ n ih=>
  have lists:∀ {xs:List V} {ds ds' es:List D} {b b':Bool},IsL X.K F xs ds->IsL X.K F xs ds'->uc (eqN n) ds es=some b->uc (eqN n) ds' es=some b'->b=b':=by
   intro xs
   induction xs with
   | nil=>intro ds ds' es b b' h1 h2 e1 e2; cases h1; cases h2; simp only [uc] at e1 e2; cases e1; cases e2; rfl
   | cons x xs ihx=>
    intro ds ds' es b b' h1 h2 e1 e2
    cases h1 with
    | cons a1 t1=>
     cases h2 with
     | cons a2 t2=>
      rename_i d ds d' ds'
      cases es with
      | nil=>simp only [uc] at e1 e2; cases e1; cases e2; rfl
      | cons e es=>
       unfold uc at e1 e2
       cases q:eqN n d e with
       | none=>rw [q] at e1; simp at e1
       | some k=>
        cases q2:eqN n d' e with
        | none=>rw [q2] at e2; simp at e2
        | some k'=>
         cases q3:uc (eqN n) ds es with
         | none=>rw [q,q3] at e1; simp at e1
         | some k3=>
          cases q4:uc (eqN n) ds' es with
          | none=>rw [q2,q4] at e2; simp at e2
          | some k4=>
           rw [q,q3] at e1
           rw [q2,q4] at e2
           rw [ih a1 a2 q q2,ihx t1 t2 q3 q4] at e1
           have e1:some (k'&&k4)=some b:=e1
           have e2:some (k'&&k4)=some b':=e2
           rw [e1] at e2
           exact aT.inj e2
  intro v d d' e b b' h1 h2 e1 e2
  cases h1 with
  | tup p1 t1=>
   cases h2 with
   | tup p2 t2=>
    have q:=I.tuple_inj (qD sb p1) (qD sb p2)
    subst q
    have hl:=t1.length.symm.trans t2.length
    cases e with
    | tup es=>
     rename_i ds ds'
     simp only [eqN] at e1 e2
     cases q3:uc (eqN n) ds es with
     | none=>rw [q3] at e1; simp at e1
     | some k3=>
      cases q4:uc (eqN n) ds' es with
      | none=>rw [q4] at e2; simp at e2
      | some k4=>
       rw [q3] at e1
       rw [q4] at e2
       rw [lists t1 t2 q3 q4,hl] at e1
       exact aT.inj (e1.symm.trans e2)
    | _=>simp only [eqN,eqS] at e1 e2 <;> first | (cases e1; cases e2; rfl) | (cases e1; done)
   | lst p2 t2=>exact (notTL p1 p2).elim
   | _=>cases e <;> simp [eqN,eqS] at e2
  | lst p1 t1=>
   cases h2 with
   | lst p2 t2=>
    have q:=I.list_inj (sb.seq p1) (sb.seq p2)
    subst q
    have hl:=t1.length.symm.trans t2.length
    cases e with
    | lst es=>
     rename_i ds ds'
     simp only [eqN] at e1 e2
     rw [hl] at e1
     by_cases z:ds'.length=es.length
     ·rw [if_pos z] at e1 e2
      exact lists t1 t2 e1 e2
     ·rw [if_neg z] at e1 e2
      exact aT.inj (e1.symm.trans e2)
    | _=>simp only [eqN,eqS] at e1 e2 <;> first | (cases e1; cases e2; rfl) | (cases e1; done)
   | tup p2 t2=>exact (notTL p2 p1).elim
   | _=>cases e <;> simp [eqN,eqS] at e2
  | _=>cases h2 <;> cases e <;> simp only [eqN,eqS] at e1 e2 <;> first
   | (cases e1; cases e2; rfl)
   | (cases e1; done)
   | (cases e2; done)
open Classical in
noncomputable def ZZ (X:Cx) (F:Hp) (n:Nat) (e:D) (u:Value):Bool:=decide (∃ v d,Is X.K F v d/\RelV v u/\eqN n d e=some true)
open Classical in
theorem qb8 (I:Inv X pins σ H s) (sb:Same F H) {u:Value} (h:Is X.K F v d) (r:RelV v u) (q:eqN n d e=some b):ZZ X F n e u=b:=by
 unfold ZZ
 cases b with
 | true=>exact decide_eq_true ⟨v,d,h,r,q⟩
 | false=>
  refine decide_eq_false ?_
  rintro ⟨w,d',h',r',q'⟩
  have e:=r.inj r'
  subst e
  exact absurd (qb7 I sb n h h' q q') (by decide)
noncomputable def gY (n:Nat) (e:D):List D->Option Bool
 | []=>some false
 | d::ds=>(eqN n d e).bind fun a=>(gY n e ds).bind fun b=>some (a||b)
theorem YJ {ds:List D} (h:gY n e (d::ds)=some b):∃ a c,eqN n d e=some a/\gY n e ds=some c/\b=(a||c):=by
 unfold gY at h
 cases q:eqN n d e with
 | none=>rw [q] at h; simp at h
 | some a=>
  cases q2:gY n e ds with
  | none=>rw [q,q2] at h; simp at h
  | some c=>rw [q,q2] at h; exact ⟨a,c,rfl,rfl,(aT.inj h).symm⟩
theorem YK (I:Inv X pins σ H s) (sb:Same F H):∀ {vs:List V} {ds:List D} {us:List Value} {b:Bool},IsL X.K F vs ds->Vals vs us->gY n e ds=some b->us.any (ZZ X F n e)=b/\∀ u∈us,∃ v d a,Is X.K F v d/\RelV v u/\eqN n d e=some a/\ZZ X F n e u=a
 | _,_,_,b,.nil,.nil,h=>⟨by simpa using (aT.inj h),fun u hu=>nomatch hu⟩
 | _,_,_,b,.cons i t,.cons r rs,h=>by
  obtain ⟨a,c,q1,q2,rfl⟩:=YJ h
  obtain ⟨ih1,ih2⟩:=YK I sb t rs q2
  have e1:=qb8 I sb i r q1
  refine ⟨by rw [cF,e1,ih1],fun u hu=>?_⟩
  rcases ac.mp hu with rfl | hu
  ·exact ⟨_,_,a,i,r,q1,e1⟩
  ·exact ih2 u hu
end
noncomputable def inD (x y:D):Out Bool:=match y with
 | .lst ds=>match gY 7 x ds with
  | some b=>.ok b
  | none=>.bad
 | .tup ds=>match gY 7 x ds with
  | some b=>.ok b
  | none=>.bad
 | _=>.bad
noncomputable def qfm (x y:D):Out D:=(inD x y).bind fun b=>.ok (.bl b)
noncomputable def UC (x y:D):Out D:=(inD x y).bind fun b=>.ok (.bl (!b))
theorem TopIs.is {K:Frag} (s:Same F H) (h:TopIs K F H v d):∃ F',Same F F'/\Same F' H/\Is K F' v d:=by
 rcases h with h | ⟨a,rfl,o⟩
 ·exact ⟨F,Same.refl _,s,h⟩
 ·obtain ⟨u,hu⟩:∃ u,H a=some u:=by
   cases q:H a with
   | none=>exact absurd q o.there
   | some u=>exact ⟨u,rfl⟩
  by_cases hF:F a=none
  ·have gr:Same F (upd F a u):=fun b w e=>by rw [qx (qI e hF)]; exact e
   refine ⟨upd F a u,gr,fun b w e=>?_,?_⟩
   ·by_cases q:b=a
    ·subst q; rw [qo] at e; cases e; exact hu
    ·rw [qx q] at e; exact s b w e
   ·cases d with
    | lst ds=>obtain ⟨xs,e,t⟩:=o; rw [hu] at e; cases e; exact .lst (.inl (.inl qo)) (t.mono gr)
    | dct ds=>obtain ⟨xs,e,t⟩:=o; rw [hu] at e; cases e; exact .dct qo (t.mono gr)
    | ins C fs=>obtain ⟨dx,xs,e,t⟩:=o; rw [hu] at e; cases e; exact .ins qo (t.mono gr)
    | at_ b ds=>obtain ⟨eb,xs,e,t⟩:=o; rw [hu] at e; cases e; subst eb; exact .at_ (.inl (.inl qo)) (t.mono gr)
    | _=>exact o.elim
  ·obtain ⟨w,hw⟩:∃ w,F a=some w:=by
    cases q:F a with
    | none=>exact absurd q hF
    | some w=>exact ⟨w,rfl⟩
   have e:=s a w hw
   cases d with
   | lst ds=>obtain ⟨xs,e',t⟩:=o; rw [e'] at e; cases e; exact ⟨F,Same.refl _,s,.lst (.inl (.inl hw)) t⟩
   | dct ds=>obtain ⟨xs,e',t⟩:=o; rw [e'] at e; cases e; exact ⟨F,Same.refl _,s,.dct hw t⟩
   | ins C fs=>obtain ⟨dx,xs,e',t⟩:=o; rw [e'] at e; cases e; exact ⟨F,Same.refl _,s,.ins hw t⟩
   | at_ b ds=>obtain ⟨eb,xs,e',t⟩:=o; rw [e'] at e; cases e; subst eb; exact ⟨F,Same.refl _,s,.at_ (.inl (.inl hw)) t⟩
   | _=>exact o.elim
section
variable {C:Ct}
theorem Wg {A:Around} {y x:V} {dx:D} {ds:List D} {b:Bool} {u v:Value} {a:Addr} {us:List Value} {xs:List V} (I:Inv X pins σ H s) (hu:A.units+64 < cLine) (sb:Same F H) (ix:Is X.K F x dx) (rx:RelV x v)
  (il:IsL X.K F xs ds) (r:Vals xs us) (h:gY 7 dx ds=some b):us.any (ZZ X F 7 dx)=b/\∀ w,w∈us.toArray->EqAt A.in1 s w v (ZZ X F 7 dx w):=by
 obtain ⟨h1,h2⟩:=YK I sb il r h
 refine ⟨h1,fun w hw=>?_⟩
 obtain ⟨vv,d,k,i1,r1,q,e⟩:=h2 w (by simpa using hw)
 rw [e]
 exact Wf I sb 7 (by show A.units+1+7 < cLine; omega) i1 ix r1 rx q
theorem qgd (hK:C.K=X.K) (hu:X.A.units+64 < cLine):OpD X C .sh (compareOp .In) qfm:=by
 intro pins s σ H x y v u Q I rx ry h
 obtain ⟨F,dx,dy,sb,tx,ty,po⟩:=h
 rw [hK] at tx ty
 unfold qfm inD at po
 obtain ⟨F',g',sb',ix⟩:=tx.is sb
 cases dy with
 | lst ds=>
  cases e:gY 7 dx ds with
  | none=>simp only [e] at po; exact po.elim
  | some b=>
   simp only [e] at po
   obtain ⟨a,xs,rfl,p,il⟩:=ty.lst sb
   cases ry
   obtain ⟨us,r,pl,_⟩:=I.list p
   obtain ⟨h1,h2⟩:=Wg (A:=X.A) (y:=.non) (a:=a) (u:=.none) I hu sb' ix rx (il.mono g') r e
   refine in_listAt (ZZ X F' 7 dx) pl.isList h2 ⟨.bl b,H,I,by show _=_; rw [<-h1]; simp,po _ F H sb .refl (.bl _)⟩
 | tup ds=>
  cases e:gY 7 dx ds with
  | none=>simp only [e] at po; exact po.elim
  | some b=>
   simp only [e] at po
   obtain ⟨a,xs,rfl,p,il⟩:=ty.tup sb
   cases ry
   obtain ⟨us,r,pl,_⟩:=I.tuple p
   obtain ⟨h1,h2⟩:=Wg (A:=X.A) (y:=.non) (a:=a) (u:=.none) I hu sb' ix rx (il.mono g') r e
   refine in_tupleAt (ZZ X F' 7 dx) pl h2 ⟨.bl b,H,I,by show _=_; rw [<-h1]; simp,po _ F H sb .refl (.bl _)⟩
 | _=>exact po.elim
theorem GC (hK:C.K=X.K) (hu:X.A.units+64 < cLine):OpD X C .sh (compareOp .NotIn) UC:=by
 intro pins s σ H x y v u Q I rx ry h
 obtain ⟨F,dx,dy,sb,tx,ty,po⟩:=h
 rw [hK] at tx ty
 unfold UC inD at po
 obtain ⟨F',g',sb',ix⟩:=tx.is sb
 cases dy with
 | lst ds=>
  cases e:gY 7 dx ds with
  | none=>simp only [e] at po; exact po.elim
  | some b=>
   simp only [e] at po
   obtain ⟨a,xs,rfl,p,il⟩:=ty.lst sb
   cases ry
   obtain ⟨us,r,pl,_⟩:=I.list p
   obtain ⟨h1,h2⟩:=Wg (A:=X.A) (y:=.non) (a:=a) (u:=.none) I hu sb' ix rx (il.mono g') r e
   refine notIn_listAt (ZZ X F' 7 dx) pl.isList h2 ⟨.bl (!b),H,I,by show _=_; rw [<-h1]; simp,po _ F H sb .refl (.bl _)⟩
 | tup ds=>
  cases e:gY 7 dx ds with
  | none=>simp only [e] at po; exact po.elim
  | some b=>
   simp only [e] at po
   obtain ⟨a,xs,rfl,p,il⟩:=ty.tup sb
   cases ry
   obtain ⟨us,r,pl,_⟩:=I.tuple p
   obtain ⟨h1,h2⟩:=Wg (A:=X.A) (y:=.non) (a:=a) (u:=.none) I hu sb' ix rx (il.mono g') r e
   refine notIn_tupleAt (ZZ X F' 7 dx) pl h2 ⟨.bl (!b),H,I,by show _=_; rw [<-h1]; simp,po _ F H sb .refl (.bl _)⟩
 | _=>exact po.elim
end
end L2.D2
namespace L2.D2
open PySem PySem.Spec PyProof.Rows
def PoT (C:Ct) (own:List Nat) (σ:St) (F H:Hp) (r:Out (Bool×Sl)) (Q:Bool->Hp->Prop):Prop:=match r with
 | .ok (b,ρ')=>∀ F' H',Rep C.K own F' H' σ ρ'->Chg (OA own σ) F H F' H'->Q b H'
 | .exc c ρ'=>∀ F' H',Same F' H'->ZY C.K C.ox F' H' σ ρ'->Chg (OA own σ) F H F' H'->C.E (C.cv c) none H'
 | .bad=>False
def tT (C:Ct) (own:List Nat) (f:Sl->Out (Bool×Sl)):TT:=fun σ H Q=>∃ F ρ,Rep C.K own F H σ ρ/\PoT C own σ F H (f ρ) Q
variable {C:Ct} {own:List Nat} {σ:St} {F H F1 H1:Hp} {Q:Bool->Hp->Prop}
theorem PoT.shift {r:Out (Bool×Sl)} (h:PoT C own σ F H r Q) (c:Chg (OA own σ) F H F1 H1):PoT C own σ F1 H1 r Q:=by
 cases r with
 | ok p=>exact fun F' H' rp c'=>h F' H' rp (c.trans' c')
 | exc x=>exact fun F' H' s io c'=>h F' H' s io (c.trans' c')
 | bad=>exact h.elim
variable {o:Out (D×Sl)}
theorem PoT.bindV {ma:Mo} {k:D×Sl->Out (Bool×Sl)} {R:VK} (hp:PoT C own σ F H (o.bind k) Q)
  (h:∀ v F1 H1 d ρ1,Rep C.K own F1 H1 σ ρ1->Chg (OA own σ) F H F1 H1->MoIs C.K ma H F1 H1 v d->PoT C own σ F1 H1 (k (d,ρ1)) Q->R v H1):Po C own ma σ F H o R:=by
 cases o with
 | ok p=>
  obtain ⟨d,ρ1⟩:=p
  exact fun v F1 H1 rp c mo=>h v F1 H1 d ρ1 rp c mo (PoT.shift (show PoT C own σ F H (k (d,ρ1)) Q from hp) c)
 | exc x=>exact hp
 | bad=>exact hp.elim
theorem PoT.bindT {o:Out (Bool×Sl)} {k:Bool×Sl->Out (Bool×Sl)} {R:Bool->Hp->Prop} (hp:PoT C own σ F H (o.bind k) Q)
  (h:∀ F1 H1 b ρ1,Rep C.K own F1 H1 σ ρ1->Chg (OA own σ) F H F1 H1->PoT C own σ F1 H1 (k (b,ρ1)) Q->R b H1):PoT C own σ F H o R:=by
 cases o with
 | ok p=>
  obtain ⟨d,ρ1⟩:=p
  exact fun F1 H1 rp c=>h F1 H1 d ρ1 rp c (PoT.shift (show PoT C own σ F H (k (d,ρ1)) Q from hp) c)
 | exc x=>exact hp
 | bad=>exact hp.elim
variable {m:Mo}
theorem Po.bindT {o:Out (Bool×Sl)} {k:Bool×Sl->Out (D×Sl)} {Q:VK} {R:Bool->Hp->Prop} (hp:Po C own m σ F H (o.bind k) Q)
  (h:∀ F1 H1 b ρ1,Rep C.K own F1 H1 σ ρ1->Chg (OA own σ) F H F1 H1->Po C own m σ F1 H1 (k (b,ρ1)) Q->R b H1):PoT C own σ F H o R:=by
 cases o with
 | ok p=>
  obtain ⟨d,ρ1⟩:=p
  exact fun F1 H1 rp c=>h F1 H1 d ρ1 rp c (Po.shift (show Po C own m σ F H (k (d,ρ1)) Q from hp) c)
 | exc x=>exact hp
 | bad=>exact hp.elim
noncomputable def ye:D->Out Bool
 | .non=>.ok false
 | .bl b=>.ok b
 | .int i=>.ok (i != 0)
 | .str x=>.ok ((x.length:Int) != 0)
 | .tup xs=>.ok (!xs.isEmpty)
 | .lst xs=>.ok (!xs.isEmpty)
 | .dct xs=>.ok (!xs.isEmpty)
 | .raw _=>.bad
 | .xcp _=>.bad
 | .ins _ _=>.bad
 | .at_ _ _=>.bad
noncomputable def zl (f:Sl->Out (D×Sl)):Sl->Out (Bool×Sl):=fun ρ=>(f ρ).bind fun p=>(ye p.1).bind fun b=>.ok (b,p.2)
variable {K:Frag} {vs:List V} {ds:List D}
theorem IsL.isEmpty (h:IsL K F vs ds):vs.isEmpty=ds.isEmpty:=by cases h <;> rfl
theorem IsK.isEmpty {vs:List (Key×V)} {ds:List (Key×D)} (h:IsK K F vs ds):vs.isEmpty=ds.isEmpty:=by cases h <;> rfl
variable {v:V} {d:D}
theorem qb9 {b:Bool} (s:Same F H) (h:TopIs K F H v d) (e:ye d=.ok b):qf0 K v H b:=by
 cases d with
 | non=>obtain rfl:=h.non; cases e; rfl
 | bl x=>obtain rfl:=h.bl; cases e; rfl
 | int x=>obtain rfl:=h.int; cases e; rfl
 | str x=>obtain ⟨rfl,q⟩:=h.str; cases e; exact ⟨q,rfl⟩
 | tup x=>obtain ⟨a,xs,rfl,p,t⟩:=h.tup s; cases e; exact .inr (.inl ⟨xs,p,by rw [t.isEmpty]⟩)
 | lst x=>obtain ⟨a,xs,rfl,p,t⟩:=h.lst s; cases e; exact .inl ⟨xs,p,by rw [t.isEmpty]⟩
 | dct x=>obtain ⟨a,xs,rfl,p,t⟩:=h.dct s; cases e; exact .inr (.inr ⟨xs,p,by rw [t.isEmpty]⟩)
 | raw x=>cases e
 | xcp x=>cases e
 | ins x y=>cases e
 | at_ x y=>cases e
noncomputable def je (f:Sl->Out (D×Sl)):Sl->Out (Bool×Sl):=fun ρ=>(f ρ).bind fun p=>match p.1 with
 | .bl b=>.ok (b,p.2)
 | _=>.bad
variable {X:Cx} {c e:Expr} {f fa fb:Sl->Out (D×Sl)} {ft:Sl->Out (Bool×Sl)} {ma mb:Mo} {pos:Pos} {op op':CmpOp} {ρ:Sl} {g':D->D->Out D}
section
variable {a b:Expr} {fc:Sl->Out (D×Sl)} {fu:Sl->Out (Bool×Sl)} {mc:Mo} {rest:List Expr}
theorem jI (hK:C.K=X.K) (h:PE X e (tE C own m f)) (he:∀ whole,isTrue e X.env whole=(do let v <-whole; standAt e.pos; holding [v] (truthy v))):PT X e (tT C own (zl f)):=by
 refine Gy (Gj h he) fun σ H Q ⟨F,ρ,rp,h⟩=>⟨F,ρ,rp,PoT.bindV h fun v F1 H1 d ρ1 rp1 c1 mo1 h1=>?_⟩
 cases q:ye d with
 | ok k=>
  have h1:PoT C own σ F1 H1 ((ye d).bind fun b=>.ok (b,ρ1)) Q:=h1
  rw [q] at h1
  exact ⟨k,by rw [<-hK]; exact qb9 rp1.sub mo1.top q,h1 F1 H1 rp1 .refl⟩
 | exc x=>
  have h1:PoT C own σ F1 H1 ((ye d).bind fun b=>.ok (b,ρ1)) Q:=h1
  cases d <;> cases q
 | bad=>
  have h1:PoT C own σ F1 H1 ((ye d).bind fun b=>.ok (b,ρ1)) Q:=h1
  rw [q] at h1
  exact h1.elim
theorem YL (h:tT C own (je f) σ H Q):tE C own .sh f σ H fun x H'=>∃ k,x=.bl k/\Q k H':=by
 obtain ⟨F,ρ,rp,h⟩:=h
 refine ⟨F,ρ,rp,PoT.bindV h fun v F1 H1 d ρ1 rp1 c1 mo1 h1=>?_⟩
 cases d with
 | bl k=>
  have mo1:Is C.K F1 v (.bl k):=mo1
  cases mo1
  exact ⟨k,rfl,h1 F1 H1 rp1 .refl⟩
 | _=>exact h1.elim
theorem ja {g:D->D->Out D} (ho:OpD X C .sh (compareOp op) g) (ha:PE X a (tE C own ma fa)) (hb:PE X b (tE C own mb fb)) (hma:ma≠.any:=by decide)
  (hk:behindInMarks op b=false:=by first | exact qa0 _ | with_unfolding_all rfl):PT X (.Compare a [op] [b] pos) (tT C own (je (d2 g fa fb))):=by
 refine Gy (qbU ho ha hb hk) fun σ H Q h=>?_
 exact Js hma (YL h)
noncomputable def KQ (ft:Sl->Out (Bool×Sl)):Sl->Out (Bool×Sl):=fun ρ=>(ft ρ).bind fun p=>.ok (!p.1,p.2)
theorem kw (h:PT X a (tT C own ft)):PT X (.UnaryOp .Not a pos) (tT C own (KQ ft)):=by
 refine Gy (qdy h) fun σ H Q ⟨F,ρ,rp,h⟩=>⟨F,ρ,rp,PoT.bindT h fun F1 H1 b ρ1 rp1 c1 h1=>h1 F1 H1 rp1 .refl⟩
theorem qd9 {e:Expr} {t t':TT} (h:PW X e t) (i:∀ σ H Q,t' σ H Q->t σ H Q):PW X e t':=⟨fun wh pins s σ H Q I hw=>h wh pins s σ H Q I (i σ H Q hw)⟩
noncomputable def qca (ft fu:Sl->Out (Bool×Sl)):Sl->Out (Bool×Sl):=fun ρ=>(ft ρ).bind fun p=>if p.1=true then fu p.2 else .ok (false,p.2)
noncomputable def dOr (ft fu:Sl->Out (Bool×Sl)):Sl->Out (Bool×Sl):=fun ρ=>(ft ρ).bind fun p=>if p.1=true then .ok (true,p.2) else fu p.2
theorem uJ {op} (h:PT X a (tT C own ft)):PW X (.BoolOp op [a] pos) (tT C own ft):=by
 cases op
 ·exact qbL h
 ·exact qdw h
theorem YM (ha:PT X a (tT C own ft)) (hb:PW X (.BoolOp .And (b::rest) pos) (tT C own fu)):PW X (.BoolOp .And (a::b::rest) pos) (tT C own (qca ft fu)):=by
 refine qd9 (qdx ha hb) fun σ H Q ⟨F,ρ,rp,h⟩=>⟨F,ρ,rp,PoT.bindT h fun F1 H1 k ρ1 rp1 c1 h1=>?_⟩
 cases k with
 | true=>exact ⟨F1,ρ1,rp1,h1⟩
 | false=>exact h1 F1 H1 rp1 .refl
theorem Jx (ha:PT X a (tT C own ft)) (hb:PW X (.BoolOp .Or (b::rest) pos) (tT C own fu)):PW X (.BoolOp .Or (a::b::rest) pos) (tT C own (dOr ft fu)):=by
 refine qd9 (qfK ha hb) fun σ H Q ⟨F,ρ,rp,h⟩=>⟨F,ρ,rp,PoT.bindT h fun F1 H1 k ρ1 rp1 c1 h1=>?_⟩
 cases k with
 | true=>exact h1 F1 H1 rp1 .refl
 | false=>exact ⟨F1,ρ1,rp1,h1⟩
noncomputable def KR (fa fb:Sl->Out (D×Sl)):Sl->Out (D×Sl):=fun ρ=>(fa ρ).bind fun p=>match p.1 with
 | .bl true=>fb p.2
 | .bl false=>.ok (.bl false,p.2)
 | _=>.bad
noncomputable def qgS (fa fb:Sl->Out (D×Sl)):Sl->Out (D×Sl):=fun ρ=>(fa ρ).bind fun p=>match p.1 with
 | .bl true=>.ok (.bl true,p.2)
 | .bl false=>fb p.2
 | _=>.bad
theorem YN {op} (h:PE X a (tE C own m f)):PE X (.BoolOp op [a] pos) (tE C own m f):=qdz h
theorem Wh (ha:PE X a (tE C own .sh fa)) (hb:PE X (.BoolOp .And (b::rest) pos) (tE C own .sh fb)):PE X (.BoolOp .And (a::b::rest) pos) (tE C own .sh (KR fa fb)):=by
 refine jR (qdA ha hb) fun σ H Q ⟨F,ρ,rp,h⟩=>⟨F,ρ,rp,Po.bind h fun v F1 H1 d ρ1 rp1 c1 mo1 h1=>?_⟩
 cases d with
 | bl k=>
  have mo1:Is C.K F1 v (.bl k):=mo1
  cases mo1
  refine ⟨k,rfl,?_⟩
  cases k with
  | true=>exact ⟨F1,ρ1,rp1,h1⟩
  | false=>exact h1 _ F1 H1 rp1 .refl (.bl _)
 | _=>exact h1.elim
noncomputable def dIf (ft:Sl->Out (Bool×Sl)) (fa fb:Sl->Out (D×Sl)):Sl->Out (D×Sl):=fun ρ=>(ft ρ).bind fun p=>if p.1=true then fa p.2 else fb p.2
theorem YO {t:Expr} (ht:PT X t (tT C own ft)) (ha:PE X a (tE C own ma fa)) (hb:PE X b (tE C own mb fb)) (h1:ma≠.any:=by decide) (h2:mb≠.any:=by decide):PE X (.IfExp t a b pos) (tE C own .sh (dIf ft fa fb)):=by
 refine jR (Gc ht (ux ha h1) (ux hb h2)) fun σ H Q ⟨F,ρ,rp,h⟩=>⟨F,ρ,rp,Po.bindT h fun F1 H1 k ρ1 rp1 c1 h1=>?_⟩
 cases k with
 | true=>exact ⟨F1,ρ1,rp1,h1⟩
 | false=>exact ⟨F1,ρ1,rp1,h1⟩
noncomputable def yf (g g':D->D->Out D) (fa fb fc:Sl->Out (D×Sl)):Sl->Out (D×Sl):=fun ρ=>(fa ρ).bind fun p=>(fb p.2).bind fun q=>(g p.1 q.1).plain.bind fun z=>match z with
 | .bl true=>(fc q.2).bind fun r=>(g' q.1 r.1).plain.bind fun d=>.ok (d,r.2)
 | .bl false=>.ok (.bl false,q.2)
 | _=>.bad
theorem PoV.bind {o:Out D} {k:D->Out (D×Sl)} {Q R:VK} (rp:Rep C.K own F H σ ρ) (h:Po C own m σ F H (o.plain.bind k) Q)
  (hk:∀ v F1 H1 d,Rep C.K own F1 H1 σ ρ->Chg No F H F1 H1->MoIs C.K ma H F1 H1 v d->Po C own m σ F1 H1 (k d) Q->R v H1):PoV C ma F H o R:=by
 cases o with
 | ok d=>exact fun v F1 H1 s c mo=>hk v F1 H1 d (rp.grow c s) c mo (Po.shift (show Po C own m σ F H (k d) Q from h) c.ofNo)
 | exc c=>exact h.elim
 | bad=>exact h.elim
theorem Wi {g:D->D->Out D} {Q:VK} (hma:ma≠.any) (hmb:mb≠.any) (h:tE C own .sh (yf g g' fa fb fc) σ H Q) :
  Ys (fun x y H Q=>∃ F dx dy,Same F H/\TopIs C.K F H x dx/\TopIs C.K F H y dy/\PoV C .sh F H (g dx dy) Q) (fun x y H Q=>∃ F dx dy,Same F H/\TopIs C.K F H x dx/\TopIs C.K F H y dy/\PoV C .sh F H (g' dx dy) Q)
   (tE C own ma fa) (tE C own mb fb) (tE C own mc fc) σ H Q:=by
 obtain ⟨F,ρ,rp,h⟩:=h
 refine ⟨F,ρ,rp,Po.bind h fun v F1 H1 d ρ1 rp1 c1 mo1 h1=>⟨F1,ρ1,rp1,Po.bind h1 fun w F2 H2 e ρ2 rp2 c2 mo2 h2=>?_⟩⟩
 have oa:∀ x,OA own σ x->H x≠none:=fun x z=>(rp.OA_there z).1
 have oa1:∀ x,OA own σ x->H1 x≠none:=fun x z=>(rp1.OA_there z).1
 refine ⟨F2,d,e,rp2.sub,(mo1.grow hma c2 oa).top,mo2.top,PoV.bind (m:=.sh) rp2 h2 fun z F3 H3 dz rp3 c3 mo3 h3=>?_⟩
 cases dz with
 | bl k=>
  have mo3:Is C.K F3 z (.bl k):=mo3
  cases mo3
  refine ⟨k,rfl,?_⟩
  cases k with
  | true=>
   refine ⟨F3,ρ2,rp3,Po.bind h3 fun w' F4 H4 r ρ4 rp4 c4 mo4 h4=>?_⟩
   exact ⟨F4,e,r,rp4.sub,((mo2.grow hmb (c3.ofNo) oa1).grow hmb c4 oa1).top,mo4.top,PoV.of rp4 h4⟩
  | false=>exact h3 _ F3 H3 rp3 .refl (.bl _)
 | _=>exact h3.elim
theorem Wj {g:D->D->Out D} (ho:OpD X C .sh (compareOp op) g) (ho':OpD X C .sh (compareOp op') g') (ha:PE X a (tE C own ma fa)) (hb:PE X b (tE C own mb fb)) (hc:PE X c (tE C own mc fc)) (hma:ma≠.any:=by decide) (hmb:mb≠.any:=by decide)
  (hm:lastMarks [op,op'] [b,c]=false:=by with_unfolding_all rfl):PE X (.Compare a [op,op'] [b,c] pos) (tE C own .sh (yf g g' fa fb fc)):=jR (Gh ho ho' ha hb hc hm) fun _ _ _ h=>Wi hma hmb h
theorem Jy {g:D->D->Out D} (ho:OpD X C .sh (compareOp op) g) (ho':OpD X C .sh (compareOp op') g') (ha:PE X a (tE C own ma fa)) (hb:PE X b (tE C own mb fb)) (hc:PE X c (tE C own mc fc)) (hma:ma≠.any:=by decide) (hmb:mb≠.any:=by decide)
  (hm:lastMarks [op,op'] [b,c]=false:=by with_unfolding_all rfl):PT X (.Compare a [op,op'] [b,c] pos) (tT C own (je (yf g g' fa fb fc))):=Gy (Gi ho ho' ha hb hc hm) fun _ _ _ h=>Wi hma hmb (YL h)
theorem YQ:OpR X (compareOp .LtE) (fun x y H Q=>∃ i j,x=.str i/\y=.str j/\Q (.bl (!uI j i)) H):=by
 intro pins s σ H x y v u Q I rx ry h
 obtain ⟨i,j,rfl,rfl,q⟩:=h
 obtain ⟨t,rfl⟩:=rx
 obtain ⟨t',rfl⟩:=ry
 exact PySem.P.le_str (VX I q (by simp [uI]))
noncomputable def leD:D->D->Out D
 | .int i,.int j=>.ok (.bl (decide (i<=j)))
 | .str x,.str y=>.ok (.bl (!uI y x))
 | _,_=>.bad
theorem Jz:OpD X C .sh (compareOp .LtE) leD:=by
 intro pins s σ H x y v u Q I rx ry h
 obtain ⟨F,dx,dy,sb,tx,ty,po⟩:=h
 cases dx <;> try exact po.elim
 ·cases dy <;> try exact po.elim
  obtain rfl:=tx.int
  obtain rfl:=ty.int
  exact qfX pins s σ H _ _ v u Q I rx ry ⟨_,_,rfl,rfl,po _ F H sb .refl (.bl _)⟩
 ·cases dy <;> try exact po.elim
  obtain ⟨rfl,_⟩:=tx.str
  obtain ⟨rfl,_⟩:=ty.str
  exact YQ pins s σ H _ _ v u Q I rx ry ⟨_,_,rfl,rfl,po _ F H sb .refl (.bl _)⟩
noncomputable def gtD:D->D->Out D:=uy fun i j=>.ok (.bl (decide (j < i)))
theorem qea:OpD X C .sh (compareOp .Gt) gtD:=KO qfY fun _ _ _=>.bl _
noncomputable def geD:D->D->Out D:=uy fun i j=>.ok (.bl (decide (j<=i)))
theorem qge:OpD X C .sh (compareOp .GtE) geD:=KO qfZ fun _ _ _=>.bl _
noncomputable def qcb:D->D->Out D
 | .non,.non=>.ok (.bl true)
 | .raw _,.non=>.bad
 | _,.non=>.ok (.bl false)
 | _,_=>.bad
noncomputable def GD:D->D->Out D
 | .non,.non=>.ok (.bl false)
 | .raw _,.non=>.bad
 | _,.non=>.ok (.bl true)
 | _,_=>.bad
theorem TopIs.notN (h:TopIs K F H v d) (h1:d≠.non) (h2:∀ u,d≠.raw u):v≠.non:=by
 rintro rfl
 rcases h with h | ⟨a,e,_⟩
 ·cases h
  ·exact h1 rfl
  ·exact h2 _ rfl
 ·cases e
theorem qa1:OpD X C .sh (compareOp .Is) qcb:=by
 intro pins s σ H x y v u Q I rx ry h
 obtain ⟨F,dx,dy,sb,tx,ty,po⟩:=h
 have hy:dy=.non:=by cases dy <;> first | rfl | (cases dx <;> exact po.elim)
 subst hy
 obtain rfl:=ty.non
 refine qdN pins s σ H x .non v u Q I rx ry ⟨rfl,?_⟩
 cases dx with
 | non=>obtain rfl:=tx.non; exact po _ F H sb .refl (.bl _)
 | raw _=>exact po.elim
 | _=>rw [decide_eq_false (tx.notN (by intro z; cases z) (by intro _ z; cases z))]; exact po _ F H sb .refl (.bl _)
theorem qcc:OpD X C .sh (compareOp .IsNot) GD:=by
 intro pins s σ H x y v u Q I rx ry h
 obtain ⟨F,dx,dy,sb,tx,ty,po⟩:=h
 have hy:dy=.non:=by cases dy <;> first | rfl | (cases dx <;> exact po.elim)
 subst hy
 obtain rfl:=ty.non
 refine qbS pins s σ H x .non v u Q I rx ry ⟨rfl,?_⟩
 cases dx with
 | non=>obtain rfl:=tx.non; exact po _ F H sb .refl (.bl _)
 | raw _=>exact po.elim
 | _=>rw [decide_eq_false (tx.notN (by intro z; cases z) (by intro _ z; cases z))]; exact po _ F H sb .refl (.bl _)
end
inductive Fl where
 | nx | rt (d:D) | bk | ct
structure Nx (C:Ct) (own own':List Nat) (σ:St) (F H:Hp) (ρ':Sl) (σ':St) (F' H':Hp):Prop where
 rep:Rep C.K own' F' H' σ' ρ'
 chg:Chg (OA own σ) F H F' H'
 oa:∀ b,OA own' σ' b->OA own σ b\/H b=none
 io:∀ i∈C.io,σ'[i]?=σ[i]?
def PoS (C:Ct) (own own':List Nat) (σ:St) (F H:Hp) (r:Out (Fl×Sl)) (D:Ends):Prop:=match r with
 | .ok (.nx,ρ')=>∀ σ' F' H',Nx C own own' σ F H ρ' σ' F' H'->D.nx σ' H'
 | .ok (.rt d,ρ')=>∀ v σ' F' H',Same F' H'->ZY C.K C.io F' H' σ' ρ'->Chg (OA own σ) F H F' H'->(∀ i∈C.io,σ'[i]?=σ[i]?)->MoIs C.K C.mr H F' H' v d->D.rt v H'
 | .ok (.bk,ρ')=>∀ σ' F' H',Nx C own C.ol σ F H ρ' σ' F' H'->D.bk σ' H'
 | .ok (.ct,ρ')=>∀ σ' F' H',Nx C own C.ol σ F H ρ' σ' F' H'->D.ct σ' H'
 | .exc c ρ'=>∀ F' H',Same F' H'->ZY C.K C.ox F' H' σ ρ'->Chg (OA own σ) F H F' H'->C.E (C.cv c) none H'
 | .bad=>False
def tSt (C:Ct) (own own':List Nat) (f:Sl->Out (Fl×Sl)):TS:=fun D σ H=>∃ F ρ,Rep C.K own F H σ ρ/\PoS C own own' σ F H (f ρ) D
variable {o1 o2 o3:List Nat} {σ1:St} {ρ1:Sl}
theorem Nx.then {σ2:St} {F2 H2:Hp} {ρ2:Sl} (a:Nx C o1 o2 σ F H ρ1 σ1 F1 H1) (b:Nx C o2 o3 σ1 F1 H1 ρ2 σ2 F2 H2):Nx C o1 o3 σ F H ρ2 σ2 F2 H2 where
 rep:=b.rep
 chg:=a.chg.trans b.chg a.oa
 oa:=fun x h=>by
  rcases b.oa x h with z | z
  ·exact a.oa x z
  ·refine .inr ?_
   cases q:H x with
   | none=>rfl
   | some o=>exact absurd z (a.chg.stay x (by rw [q]; simp))
 io:=fun i hi=>(b.io i hi).trans (a.io i hi)
theorem PoS.shift {r:Out (Fl×Sl)} {D:Ends} (h:PoS C o1 o3 σ F H r D) (a:Nx C o1 o2 σ F H ρ1 σ1 F1 H1):PoS C o2 o3 σ1 F1 H1 r D:=by
 cases r with
 | ok p=>
  obtain ⟨fl,ρ'⟩:=p
  cases fl with
  | nx=>exact fun σ' F' H' n=>h σ' F' H' (a.then n)
  | rt d=>exact fun v σ' F' H' s io c e mo=>h v σ' F' H' s io (a.chg.trans c a.oa) (fun i hi=>(e i hi).trans (a.io i hi)) (MoIs.back (Ha:=H1) a.chg mo)
  | bk=>exact fun σ' F' H' n=>h σ' F' H' (a.then n)
  | ct=>exact fun σ' F' H' n=>h σ' F' H' (a.then n)
 | exc c=>exact fun F' H' s io c'=>h F' H' s (fun i hi=>by
   obtain ⟨d,b,e1,e2,e3⟩:=io i hi
   exact ⟨d,b,e1,by rw [<-a.io i (C.oxs i hi)]; exact e2,e3⟩) (a.chg.trans c' a.oa)
 | bad=>exact h.elim
theorem Nx.ofE (r:Rep C.K own F1 H1 σ ρ1) (c:Chg (OA own σ) F H F1 H1):Nx C own own σ F H ρ1 σ F1 H1:=⟨r,c,fun _ h=>.inl h,fun _ _=>rfl⟩
variable {own':List Nat}
theorem PoS.bindE {m:Mo} {k:D×Sl->Out (Fl×Sl)} {D:Ends} {R:VK} (hp:PoS C own own' σ F H (o.bind k) D)
  (h:∀ v F1 H1 d ρ1,Rep C.K own F1 H1 σ ρ1->Chg (OA own σ) F H F1 H1->MoIs C.K m H F1 H1 v d->PoS C own own' σ F1 H1 (k (d,ρ1)) D->R v H1):Po C own m σ F H o R:=by
 cases o with
 | ok p=>
  obtain ⟨d,ρ1⟩:=p
  exact fun v F1 H1 rp c mo=>h v F1 H1 d ρ1 rp c mo (PoS.shift (show PoS C own own' σ F H (k (d,ρ1)) D from hp) (.ofE rp c))
 | exc x=>exact hp
 | bad=>exact hp.elim
theorem PoS.bindT {o:Out (Bool×Sl)} {k:Bool×Sl->Out (Fl×Sl)} {D:Ends} {R:Bool->Hp->Prop} (hp:PoS C own own' σ F H (o.bind k) D)
  (h:∀ F1 H1 b ρ1,Rep C.K own F1 H1 σ ρ1->Chg (OA own σ) F H F1 H1->PoS C own own' σ F1 H1 (k (b,ρ1)) D->R b H1):PoT C own σ F H o R:=by
 cases o with
 | ok p=>
  obtain ⟨d,ρ1⟩:=p
  exact fun F1 H1 rp c=>h F1 H1 d ρ1 rp c (PoS.shift (show PoS C own own' σ F H (k (d,ρ1)) D from hp) (.ofE rp c))
 | exc x=>exact hp
 | bad=>exact hp.elim
variable {b a:Addr} {t':TS} {st:Stmt} {fe:Sl->Out (D×Sl)} {i:Nat} {x:Str} {pos':Pos}
section
variable {sts rest:List Stmt} {f g:Sl->Out (Fl×Sl)}
theorem gm {t:TS} (h:PS X st t) (i:∀ D σ H,t' D σ H->t D σ H):PS X st t':=⟨fun pins s σ H D I hw=>h pins s σ H D I (i D σ H hw)⟩
theorem YR {t:TS} (h:PSs X sts t) (i:∀ D σ H,t' D σ H->t D σ H):PSs X sts t':=⟨fun pins s σ H D I hw=>h pins s σ H D I (i D σ H hw)⟩
noncomputable def ka:Sl->Out (Fl×Sl):=fun ρ=>.ok (.nx,ρ)
noncomputable def ji (f g:Sl->Out (Fl×Sl)):Sl->Out (Fl×Sl):=fun ρ=>(f ρ).bind fun p=>match p.1 with
 | .nx=>g p.2
 | fl=>.ok (fl,p.2)
theorem Nx.refl (r:Rep C.K own F H σ ρ):Nx C own own σ F H ρ σ F H:=.ofE r .refl
theorem jj:PSs X [] (tSt C own own ka):=YR qbM fun D σ H ⟨F,ρ,rp,h⟩=>h σ F H (.refl rp)
theorem qeb {D:Ends} (h:tSt C o1 o3 (ji f g) D σ H):tSt C o1 o2 f { D with nx:=tSt C o2 o3 g D } σ H:=by
 obtain ⟨F,ρ,rp,h⟩:=h
 refine ⟨F,ρ,rp,?_⟩
 unfold ji at h
 cases q:f ρ with
 | ok p=>
  rw [q] at h
  obtain ⟨fl,ρ1⟩:=p
  cases fl with
  | nx=>exact fun σ' F' H' n=>⟨F',ρ1,n.rep,PoS.shift (show PoS C o1 o3 σ F H (g ρ1) D from h) n⟩
  | rt d=>exact h
  | bk=>exact h
  | ct=>exact h
 | exc c=>rw [q] at h; exact h
 | bad=>rw [q] at h; exact h.elim
theorem qh (h1:PS X st (tSt C o1 o2 f)) (h2:PSs X rest (tSt C o2 o3 g)):PSs X (st::rest) (tSt C o1 o3 (ji f g)):=YR (Gd h1 h2) fun D σ H h=>qeb h
theorem qm (h1:PS X st (tSt C o1 o2 f)):PSs X [st] (tSt C o1 o2 f):=qbN h1
theorem Rep.weak {K:Frag} {F H:Hp} {σ:St} {ρ:Sl}:∀ (drop:List Nat) {own own':List Nat},(∀ i,i∈own'↔i∈own/\i∉drop)->Rep K own F H σ ρ->∃ F',Rep K own' F' H σ ρ/\Chg (OA own σ) F H F' H
 | [],own,own',hs,rp=>⟨F,⟨rp.sub,rp.len,fun i d hi=>rp.val i d fun z=>hi ((hs i).mpr ⟨z,by simp⟩),fun i d hi=>rp.ow i d ((hs i).mp hi).1,fun i hi=>rp.opn i ((hs i).mp hi).1,fun i j a hi hj=>rp.dis i j a ((hs i).mp hi).1 ((hs j).mp hj).1⟩,.refl⟩
 | k::r,own,own',hs,rp=>by
  obtain ⟨F1,rp1,c1⟩:=Rep.weak r (own:=own) (own':=own.filter fun i=>decide (i∉r)) (fun i=>by simp) rp
  by_cases hk:k∈own/\k∉r
  ·obtain ⟨d,hd⟩:=rp1.opn k (by simp [hk.1,hk.2])
   obtain ⟨a,h1,h2,h3⟩:=rp1.ow k d (by simp [hk.1,hk.2]) hd
   obtain ⟨u,hu⟩:∃ u,H a=some u:=by
    cases q:H a with
    | none=>exact absurd q h3.there
    | some u=>exact ⟨u,rfl⟩
   have gr:Same F1 (upd F1 a u):=fun b w e=>by rw [qx (qI e h2)]; exact e
   refine ⟨upd F1 a u,⟨fun b w e=>?_,rp1.len,fun i d' hi e=>?_,fun i d' hi e=>?_,fun i hi=>?_,fun i j b hi hj=>?_⟩,?_⟩
   ·by_cases q:b=a
    ·subst q; rw [qo] at e; cases e; exact hu
    ·rw [qx q] at e; exact rp1.sub b w e
   ·by_cases q:i=k
    ·subst q
     rw [hd] at e; cases e
     refine ⟨_,h1,?_⟩
     cases d with
     | lst ds=>obtain ⟨xs,e,t⟩:=h3; rw [hu] at e; cases e; exact .lst (.inl (.inl qo)) (t.mono gr)
     | dct ds=>obtain ⟨xs,e,t⟩:=h3; rw [hu] at e; cases e; exact .dct qo (t.mono gr)
     | ins C fs=>obtain ⟨dx,xs,e,t⟩:=h3; rw [hu] at e; cases e; exact .ins qo (t.mono gr)
     | at_ b ds=>obtain ⟨eb,xs,e,t⟩:=h3; rw [hu] at e; cases e; subst eb; exact .at_ (.inl (.inl qo)) (t.mono gr)
     | _=>exact h3.elim
    ·obtain ⟨v,q1,q2⟩:=rp1.val i d' (fun z=>by simp at z; exact hi ((hs i).mpr ⟨z.1,by simp [q,z.2]⟩)) e
     exact ⟨v,q1,q2.mono gr⟩
   ·have hi':=(hs i).mp hi
    have hik:i≠k:=fun z=>hi'.2 (by simp [z])
    have hir:i∉r:=fun z=>hi'.2 (by simp [z])
    obtain ⟨b,q1,q2,q3⟩:=rp1.ow i d' (by simp [hi'.1,hir]) e
    refine ⟨b,q1,?_,q3.grow gr fun _ z=>z⟩
    have nb:b≠a:=fun z=>by subst z; exact hik (rp1.dis i k b (by simp [hi'.1,hir]) (by simp [hk.1,hk.2]) q1 h1)
    rw [qx nb]; exact q2
   ·have hi':=(hs i).mp hi
    exact rp1.opn i (by simp [hi'.1]; exact fun z=>hi'.2 (by simp [z]))
   ·have hi':=(hs i).mp hi
    have hj':=(hs j).mp hj
    exact rp1.dis i j b (by simp [hi'.1]; exact fun z=>hi'.2 (by simp [z])) (by simp [hj'.1]; exact fun z=>hj'.2 (by simp [z]))
   ·refine ⟨c1.keep,c1.stay,c1.grow.trans gr,fun b hb=>?_⟩
    by_cases q:b=a
    ·exact .inr (.inr ⟨k,hk.1,by rw [q]; exact h1⟩)
    ·rw [qx q] at hb; exact c1.new b hb
  ·refine ⟨F1,⟨rp1.sub,rp1.len,fun i d hi=>rp1.val i d fun z=>?_,fun i d hi=>rp1.ow i d ?_,fun i hi=>rp1.opn i ?_,fun i j a hi hj=>rp1.dis i j a ?_ ?_⟩,c1⟩
   ·simp at z
    refine hi ((hs i).mpr ⟨z.1,?_⟩)
    simp only [ac,not_or]
    exact ⟨fun q=>hk (by subst q; exact z),z.2⟩
   all_goals
    first
     | (have q:=(hs _).mp hi; simp only [aD,decide_eq_true_eq]; exact ⟨q.1,fun z=>q.2 (by simp [z])⟩)
     | (have q:=(hs _).mp hj; simp only [aD,decide_eq_true_eq]; exact ⟨q.1,fun z=>q.2 (by simp [z])⟩)
theorem OA.sub (h:∀ i∈own',i∈own) (q:OA own' σ b):OA own σ b:=let ⟨i,hi,e⟩:=q; ⟨i,h i hi,e⟩
theorem Nx.drop (drop:List Nat) (hs:∀ i,i∈own'↔i∈own/\i∉drop) (rp:Rep C.K own F H σ ρ):∃ F',Nx C own own' σ F H ρ σ F' H:=by
 obtain ⟨F',rp',c⟩:=Rep.weak drop hs rp
 exact ⟨F',rp',c,fun b q=>.inl (OA.sub (fun i hi=>((hs i).mp hi).1) q),fun _ _=>rfl⟩
noncomputable def wy (own drop:List Nat):List Nat:=own.filter fun i=>decide (i∉drop)
theorem jb {own drop:List Nat} (i:Nat):i∈wy own drop↔i∈own/\i∉drop:=by simp [wy]
theorem kA (drop:List Nat) (h:PSs X sts (tSt C (wy own drop) o2 f)):PSs X sts (tSt C own o2 f):=YR h fun D σ H ⟨F,ρ,rp,h⟩=>by
 obtain ⟨F',n⟩:=Nx.drop (C:=C) drop (fun i=>jb (own:=own) i) rp
 exact ⟨F',ρ,n.rep,h.shift n⟩
noncomputable def sIf (ft:Sl->Out (Bool×Sl)) (f g:Sl->Out (Fl×Sl)):Sl->Out (Fl×Sl):=fun ρ=>(ft ρ).bind fun p=>if p.1=true then f p.2 else g p.2
theorem jK {a b:List Stmt} (hc:PT X c (tT C own ft)) (ha:PSs X a (tSt C own own' f)) (hb:PSs X b (tSt C own own' g)):PS X (.If c a b pos) (tSt C own own' (sIf ft f g)):=by
 refine gm (qfO hc ha hb) fun D σ H ⟨F,ρ,rp,h⟩=>⟨F,ρ,rp,PoS.bindT h fun F1 H1 k ρ1 rp1 c1 h1=>?_⟩
 cases k with
 | true=>exact ⟨F1,ρ1,rp1,h1⟩
 | false=>exact ⟨F1,ρ1,rp1,h1⟩
noncomputable def wC (fe:Sl->Out (D×Sl)):Sl->Out (Fl×Sl):=fun ρ=>(fe ρ).bind fun p=>.ok (.nx,p.2)
theorem kl (he:PE X e (tE C own m fe)) (hs:swapsWith e none pos.line X.env=pure false:=by rfl):PS X (.Expr e pos) (tSt C own own (wC fe)):=by
 refine gm (qbO he hs) fun D σ H ⟨F,ρ,rp,h⟩=>⟨F,ρ,rp,PoS.bindE h fun v F1 H1 d ρ1 rp1 c1 mo1 h1=>h1 σ F1 H1 (.refl rp1)⟩
noncomputable def jZ (fe:Sl->Out (D×Sl)):Sl->Out (Fl×Sl):=fun ρ=>(fe ρ).bind fun p=>.ok (.rt p.1,p.2)
theorem qcd (he:PE X e (tE C own C.mr fe)) (hio:∀ i∈C.io,i∈own:=by exact zk rfl):PS X (.Return (some e) pos) (tSt C own own' (jZ fe)):=by
 refine gm (qdB he) fun D σ H ⟨F,ρ,rp,h⟩=>⟨F,ρ,rp,?_⟩
 unfold jZ at h
 cases q:fe ρ with
 | ok p=>
  rw [q] at h
  obtain ⟨d,ρ1⟩:=p
  exact fun v F1 H1 rp1 c1 mo1=>h v σ F1 H1 rp1.sub (rp1.ioIs hio) c1 (fun _ _=>rfl) mo1
 | exc c=>rw [q] at h; exact h
 | bad=>rw [q] at h; exact h.elim
theorem qp (he:PE X e (tE C own m fe)) (hm:m≠.any:=by decide) (hr:C.mr=.sh:=by rfl) (hio:∀ i∈C.io,i∈own:=by exact zk rfl):PS X (.Return (some e) pos) (tSt C own own' (jZ fe)):=qcd (by rw [hr]; exact ux he hm) hio
theorem Rep.put (rp:Rep K own F H σ ρ) (hi:i < ρ.length) (is:Is K F v d):Rep K (wy own [i]) F H (σ.set i (some v)) (ρ.set i (some d)) where
 sub:=rp.sub
 len:=by simp [rp.len]
 val:=fun j d' hj e=>by
  by_cases q:j=i
  ·subst q
   rw [aH hi] at e
   cases e
   exact ⟨v,aH (by rw [rp.len]; exact hi),is⟩
  ·rw [aw (bv q)] at e
   obtain ⟨w,h1,h2⟩:=rp.val j d' (fun z=>hj ((jb j).mpr ⟨z,by simp [q]⟩)) e
   exact ⟨w,by rw [aw (bv q)]; exact h1,h2⟩
 ow:=fun j d' hj e=>by
  have hj':=(jb j).mp hj
  have q:j≠i:=fun z=>hj'.2 (by simp [z])
  rw [aw (bv q)] at e
  obtain ⟨a,h1,h2⟩:=rp.ow j d' hj'.1 e
  exact ⟨a,by rw [aw (bv q)]; exact h1,h2⟩
 opn:=fun j hj=>by
  have hj':=(jb j).mp hj
  have q:j≠i:=fun z=>hj'.2 (by simp [z])
  obtain ⟨d',e⟩:=rp.opn j hj'.1
  exact ⟨d',by rw [aw (bv q)]; exact e⟩
 dis:=fun j k a hj hk e1 e2=>by
  have hj':=(jb j).mp hj
  have hk':=(jb k).mp hk
  rw [aw (fun z=>hj'.2 (by simp [z]))] at e1
  rw [aw (fun z=>hk'.2 (by simp [z]))] at e2
  exact rp.dis j k a hj'.1 hk'.1 e1 e2
theorem OA.put (h:OA (wy own [i]) (σ.set i (some v)) b):OA own σ b:=by
 obtain ⟨j,hj,e⟩:=h
 have hj':=(jb j).mp hj
 rw [aw (fun z=>hj'.2 (by simp [z]))] at e
 exact ⟨j,hj'.1,e⟩
noncomputable def kb (i:Nat) (fe:Sl->Out (D×Sl)):Sl->Out (Fl×Sl):=fun ρ=>(fe ρ).bind fun p=>if i < p.2.length then .ok (.nx,p.2.set i (some p.1)) else .bad
theorem qP (hN:X.N.Nodup) (hi:X.N[i]?=some x) (hx:Loc X.env.scope x) (he:PE X e (tE C own m fe)) (hm:m≠.any:=by decide) (hio:i∉C.io:=by exact VZ rfl) (hs:swapsWith e (some (.Name x pos')) pos.line X.env=pure false:=by rfl)
  (hf:X.fn x=true\/X.env.scope.names.lookup x=some .local:=by first | exact .inl rfl | exact .inr rfl):PS X (.Assign [.Name x pos'] e pos) (tSt C own (wy own [i]) (kb i fe)):=by
 refine gm (qaY hN hi hx (ux he hm) hs hf) fun D σ H ⟨F,ρ,rp,h⟩=>⟨F,ρ,rp,PoS.bindE h fun v F1 H1 d ρ1 rp1 c1 mo1 h1=>?_⟩
 by_cases q:i < ρ1.length
 ·have h1:PoS C own (wy own [i]) σ F1 H1 (if i < ρ1.length then .ok (.nx,ρ1.set i (some d)) else .bad) D:=h1
  rw [if_pos q] at h1
  exact h1 _ F1 H1 ⟨rp1.put q mo1,.refl,fun b z=>.inl (OA.put z),fun j hj=>aw fun z=>hio (by rw [z]; exact hj)⟩
 ·have h1:PoS C own (wy own [i]) σ F1 H1 (if i < ρ1.length then .ok (.nx,ρ1.set i (some d)) else .bad) D:=h1
  rw [if_neg q] at h1
  exact h1.elim
theorem Rep.putO (rp:Rep K own F H σ ρ) (hi:i < ρ.length) (hF:F a=none) (nA:¬OA own σ a) (o:OwnIs K F H a d):Rep K (i::wy own [i]) F H (σ.set i (some (.ref a))) (ρ.set i (some d)) where
 sub:=rp.sub
 len:=by simp [rp.len]
 val:=fun j d' hj e=>by
  have q:j≠i:=fun z=>hj (by simp [z])
  rw [aw (bv q)] at e
  obtain ⟨w,h1,h2⟩:=rp.val j d' (fun z=>hj (aa _ ((jb j).mpr ⟨z,by simp [q]⟩))) e
  exact ⟨w,by rw [aw (bv q)]; exact h1,h2⟩
 ow:=fun j d' hj e=>by
  by_cases q:j=i
  ·subst q
   rw [aH hi] at e
   cases e
   exact ⟨a,aH (by rw [rp.len]; exact hi),hF,o⟩
  ·have hj':=(jb j).mp ((ac.mp hj).resolve_left q)
   rw [aw (bv q)] at e
   obtain ⟨b,h1,h2⟩:=rp.ow j d' hj'.1 e
   exact ⟨b,by rw [aw (bv q)]; exact h1,h2⟩
 opn:=fun j hj=>by
  by_cases q:j=i
  ·subst q; exact ⟨d,aH hi⟩
  ·have hj':=(jb j).mp ((ac.mp hj).resolve_left q)
   obtain ⟨d',e⟩:=rp.opn j hj'.1
   exact ⟨d',by rw [aw (bv q)]; exact e⟩
 dis:=fun j k b hj hk e1 e2=>by
  have iσ:i < σ.length:=by rw [rp.len]; exact hi
  by_cases qj:j=i
  ·by_cases qk:k=i
   ·rw [qj,qk]
   ·subst qj
    have hk':=(jb k).mp ((ac.mp hk).resolve_left qk)
    rw [aH iσ] at e1
    cases e1
    rw [aw (bv qk)] at e2
    exact absurd ⟨k,hk'.1,e2⟩ nA
  ·have hj':=(jb j).mp ((ac.mp hj).resolve_left qj)
   by_cases qk:k=i
   ·subst qk
    rw [aH iσ] at e2
    cases e2
    rw [aw (bv qj)] at e1
    exact absurd ⟨j,hj'.1,e1⟩ nA
   ·have hk':=(jb k).mp ((ac.mp hk).resolve_left qk)
    rw [aw (bv qj)] at e1
    rw [aw (bv qk)] at e2
    exact rp.dis j k b hj'.1 hk'.1 e1 e2
theorem vg (hN:X.N.Nodup) (hi:X.N[i]?=some x) (hx:Loc X.env.scope x) (he:PE X e (tE C own .fr fe)) (hio:i∉C.io:=by exact VZ rfl) (hs:swapsWith e (some (.Name x pos')) pos.line X.env=pure false:=by rfl)
  (hf:X.fn x=true\/X.env.scope.names.lookup x=some .local:=by first | exact .inl rfl | exact .inr rfl):PS X (.Assign [.Name x pos'] e pos) (tSt C own (i::wy own [i]) (kb i fe)):=by
 refine gm (qaY hN hi hx he hs hf) fun D σ H ⟨F,ρ,rp,h⟩=>⟨F,ρ,rp,?_⟩
 unfold kb at h
 cases q:fe ρ with
 | ok p=>
  rw [q] at h
  obtain ⟨d,ρ1⟩:=p
  intro v F1 H1 rp1 c1 mo1
  obtain ⟨a,rfl,h0,hF,o⟩:=mo1
  by_cases z:i < ρ1.length
  ·have h1:PoS C own (i::wy own [i]) σ F H (if i < ρ1.length then .ok (.nx,ρ1.set i (some d)) else .bad) D:=h
   rw [if_pos z] at h1
   refine h1 _ F1 H1 ⟨rp1.putO z hF (fun y=>(rp.OA_there y).1 h0) o,c1,fun b y=>?_,fun j hj=>aw fun y=>hio (by rw [y]; exact hj)⟩
   obtain ⟨j,hj,e⟩:=y
   by_cases qj:j=i
   ·subst qj
    rw [aH (by rw [rp1.len]; exact z)] at e
    cases e
    exact .inr h0
   ·have hj':=(jb j).mp ((ac.mp hj).resolve_left qj)
    rw [aw (bv qj)] at e
    exact .inl ⟨j,hj'.1,e⟩
  ·have h1:PoS C own (i::wy own [i]) σ F H (if i < ρ1.length then .ok (.nx,ρ1.set i (some d)) else .bad) D:=h
   rw [if_neg z] at h1
   exact h1.elim
 | exc c=>rw [q] at h; exact h
 | bad=>rw [q] at h; exact h.elim
end
inductive AK where
 | vl | sl (i:Nat) | fr
 deriving DecidableEq
def ArgV (K:Frag) (H0 F H:Hp) (σ:St):List AK->List V->List D->Prop
 | [],[],[]=>True
 | .vl::as,v::vs,d::ds=>Is K F v d/\ArgV K H0 F H σ as vs ds
 | .sl i::as,v::vs,d::ds=>σ[i]?=some (some v)/\d=.non/\ArgV K H0 F H σ as vs ds
 | .fr::as,v::vs,d::ds=>MoIs K .fr H0 F H v d/\ArgV K H0 F H σ as vs ds
 | _,_,_=>False
variable {H0 H':Hp}
theorem ArgV.grow {A:Addr->Prop} {F':Hp} (c:Chg A F H F' H') (hA:∀ x,A x->H0 x≠none):∀ {as:List AK} {vs:List V} {ds:List D},ArgV K H0 F H σ as vs ds->ArgV K H0 F' H' σ as vs ds
 | [],[],[],h=>trivial
 | .vl::as,v::vs,d::ds,h=>⟨h.1.mono c.grow,ArgV.grow c hA h.2⟩
 | .sl i::as,v::vs,d::ds,h=>⟨h.1,h.2.1,ArgV.grow c hA h.2.2⟩
 | .fr::as,v::vs,d::ds,h=>⟨h.1.grow (by decide) c hA,ArgV.grow c hA h.2⟩
 | [],_::_,_,h=>h.elim
 | [],[],_::_,h=>h.elim
 | .vl::_,[],_,h=>h.elim
 | .vl::_,_::_,[],h=>h.elim
 | .sl _::_,[],_,h=>h.elim
 | .sl _::_,_::_,[],h=>h.elim
 | .fr::_,[],_,h=>h.elim
 | .fr::_,_::_,[],h=>h.elim
theorem ArgV.back {A:Addr->Prop} {F0:Hp} (c:Chg A F0 H0 F1 H1):∀ {as:List AK} {vs:List V} {ds:List D},ArgV K H1 F H σ as vs ds->ArgV K H0 F H σ as vs ds
 | [],[],[],h=>trivial
 | .vl::as,v::vs,d::ds,h=>⟨h.1,ArgV.back c h.2⟩
 | .sl i::as,v::vs,d::ds,h=>⟨h.1,h.2.1,ArgV.back c h.2.2⟩
 | .fr::as,v::vs,d::ds,h=>⟨MoIs.back (Ha:=H1) c h.1,ArgV.back c h.2⟩
 | [],_::_,_,h=>h.elim
 | [],[],_::_,h=>h.elim
 | .vl::_,[],_,h=>h.elim
 | .vl::_,_::_,[],h=>h.elim
 | .sl _::_,[],_,h=>h.elim
 | .sl _::_,_::_,[],h=>h.elim
 | .fr::_,[],_,h=>h.elim
 | .fr::_,_::_,[],h=>h.elim
def PoA (C:Ct) (own:List Nat) (as:List AK) (σ:St) (F H:Hp) (r:Out (List D×Sl)) (Q:List V->Hp->Prop):Prop:=match r with
 | .ok (ds,ρ')=>∀ vs F' H',Rep C.K own F' H' σ ρ'->Chg (OA own σ) F H F' H'->ArgV C.K H F' H' σ as vs ds->Q vs H'
 | .exc c ρ'=>∀ F' H',Same F' H'->ZY C.K C.ox F' H' σ ρ'->Chg (OA own σ) F H F' H'->C.E (C.cv c) none H'
 | .bad=>False
def tAr (C:Ct) (own:List Nat) (as:List AK) (f:Sl->Out (List D×Sl)):TA:=fun σ H Q=>∃ F ρ,Rep C.K own F H σ ρ/\PoA C own as σ F H (f ρ) Q
variable {as:List AK}
theorem PoA.bindV {ma:Mo} {k:D×Sl->Out (List D×Sl)} {Q:List V->Hp->Prop} {R:VK} (hp:PoA C own as σ F H (o.bind k) Q)
  (h:∀ v F1 H1 d ρ1,Rep C.K own F1 H1 σ ρ1->Chg (OA own σ) F H F1 H1->MoIs C.K ma H F1 H1 v d->PoA C own as σ F H (k (d,ρ1)) Q->R v H1):Po C own ma σ F H o R:=by
 cases o with
 | ok p=>
  obtain ⟨d,ρ1⟩:=p
  exact fun v F1 H1 rp c mo=>h v F1 H1 d ρ1 rp c mo hp
 | exc x=>exact hp
 | bad=>exact hp.elim
theorem Po.bindA {as:List AK} {o:Out (List D×Sl)} {k:List D×Sl->Out (D×Sl)} {Q:VK} {R:List V->Hp->Prop} (hp:Po C own m σ F H (o.bind k) Q)
  (h:∀ vs F1 H1 ds ρ1,Rep C.K own F1 H1 σ ρ1->Chg (OA own σ) F H F1 H1->ArgV C.K H F1 H1 σ as vs ds->Po C own m σ F1 H1 (k (ds,ρ1)) Q->R vs H1):PoA C own as σ F H o R:=by
 cases o with
 | ok p=>
  obtain ⟨d,ρ1⟩:=p
  exact fun vs F1 H1 rp c av=>h vs F1 H1 d ρ1 rp c av (Po.shift (show Po C own m σ F H (k (d,ρ1)) Q from hp) c)
 | exc x=>exact hp
 | bad=>exact hp.elim
noncomputable def qH:Sl->Out (List D×Sl):=fun ρ=>.ok ([],ρ)
noncomputable def qd (fe:Sl->Out (D×Sl)) (fr:Sl->Out (List D×Sl)):Sl->Out (List D×Sl):=fun ρ=>(fe ρ).bind fun p=>(fr p.2).bind fun q=>.ok (p.1::q.1,q.2)
noncomputable def vd (fr:Sl->Out (List D×Sl)):Sl->Out (List D×Sl):=fun ρ=>(fr ρ).bind fun q=>.ok (D.non::q.1,q.2)
variable {es:List Expr} {p:Addr} {u:HO}
section
variable {fr:Sl->Out (List D×Sl)}
theorem qce {t t':TA} (h:PA X es t) (i:∀ σ H Q,t' σ H Q->t σ H Q):PA X es t':=⟨fun pos pins s σ H Q I hw=>h pos pins s σ H Q I (i σ H Q hw)⟩
theorem qg:PA X [] (tAr C own [] qH):=qce jM fun σ H Q ⟨F,ρ,rp,h⟩=>h [] F H rp .refl trivial
theorem JA {a:AK} {Q:List V->Hp->Prop} {v:V} (rp:∀ x,OA own σ x->H x≠none) (rp1:Rep C.K own F1 H1 σ ρ1) (c1:Chg (OA own σ) F H F1 H1) (hp:PoA C own (a::as) σ F H ((fr ρ1).bind fun q=>.ok (d::q.1,q.2)) Q)
  (ha:∀ F2 H2 vs ds,Chg (OA own σ) F1 H1 F2 H2->ArgV C.K H F2 H2 σ as vs ds->ArgV C.K H F2 H2 σ (a::as) (v::vs) (d::ds)):tAr C own as fr σ H1 fun xs H2=>Q (v::xs) H2:=by
 refine ⟨F1,ρ1,rp1,?_⟩
 cases q:fr ρ1 with
 | ok p=>
  rw [q] at hp
  obtain ⟨ds,ρ2⟩:=p
  exact fun vs F2 H2 rp2 c2 av=>hp (v::vs) F2 H2 rp2 (c1.trans' c2) (ha F2 H2 vs ds c2 (ArgV.back c1 av))
 | exc c=>rw [q] at hp; exact fun F' H' s io c'=>hp F' H' s io (c1.trans' c')
 | bad=>rw [q] at hp; exact hp.elim
theorem qc (ha:PE X e (tE C own m fe)) (hr:PA X es (tAr C own as fr)) (hm:m≠.any:=by decide) (hs:starEach (e::es) X.env=(false,eval e X.env)::starEach es X.env:=by exact kq rfl):PA X (e::es) (tAr C own (.vl::as) (qd fe fr)):=by
 refine qce (qV (ux ha hm) hr hs) fun σ H Q ⟨F,ρ,rp,h⟩=>⟨F,ρ,rp,PoA.bindV h fun v F1 H1 d ρ1 rp1 c1 mo1 h1=>?_⟩
 exact JA (fun x z=>(rp.OA_there z).1) rp1 c1 h1 fun F2 H2 vs ds c2 av=>⟨Is.mono c2.grow mo1,av⟩
theorem jw {px:Pos} (hN:X.N[i]?=some x) (hv:Vis X.env.scope x) (ho:i∈own) (hr:PA X es (tAr C own as fr)) (hs:starEach (.Name x px::es) X.env=(false,eval (.Name x px) X.env)::starEach es X.env:=by rfl)
  (hd:(x == ("__debug__":Str))=false:=by decide) (hcd:(x == ("__classdict__":Str))=false:=by decide):PA X (.Name x px::es) (tAr C own (.sl i::as) (vd fr)):=by
 refine qce (qV (uW hN hv hd hcd) hr hs) fun σ H Q ⟨F,ρ,rp,h⟩=>?_
 obtain ⟨d,hd⟩:=rp.opn i ho
 obtain ⟨a,h1,h2,h3⟩:=rp.ow i d ho hd
 exact ⟨_,h1,JA (fun x z=>(rp.OA_there z).1) rp .refl h fun F2 H2 vs ds c2 av=>⟨h1,rfl,av⟩⟩
theorem ArgV.isL:∀ {as:List AK} {vs:List V} {ds:List D},(as.all fun a=>decide (a=.vl))=true->ArgV K H0 F H σ as vs ds->IsL K F vs ds
 | [],[],[],_,_=>.nil
 | .vl::as,v::vs,d::ds,h,a=>.cons a.1 (ArgV.isL (by simpa using h) a.2)
 | .sl i::as,_,_,h,a=>by simp at h
 | .fr::as,_,_,h,a=>by simp at h
 | [],_::_,_,_,h=>h.elim
 | [],[],_::_,_,h=>h.elim
 | .vl::_,[],_,_,h=>h.elim
 | .vl::_,_::_,[],_,h=>h.elim
noncomputable def zm (fr:Sl->Out (List D×Sl)):Sl->Out (D×Sl):=fun ρ=>(fr ρ).bind fun p=>if p.1.length<=sizeLine then .ok (.tup p.1,p.2) else .bad
noncomputable def xO (fr:Sl->Out (List D×Sl)):Sl->Out (D×Sl):=fun ρ=>(fr ρ).bind fun p=>if p.1.length<=sizeLine then .ok (.lst p.1,p.2) else .bad
theorem qec (rp:Rep C.K own F H σ ρ) (hp:H p=none):Rep C.K own (upd F p u) (upd H p u) σ ρ/\Chg No F H (upd F p u) (upd H p u):=by
 have hF:F p=none:=by
  cases q:F p with
  | none=>rfl
  | some o=>rw [rp.sub p o q] at hp; cases hp
 have c:Chg No F H (upd F p u) (upd H p u):=⟨fun b o e _=>by rw [qx (qI e hp)]; exact e,fun b e=>by
  by_cases q:b=p
  ·rw [q,qo]; simp
  ·rw [qx q]; exact e,fun b o e=>by rw [qx (qI e hF)]; exact e,fun b e=>by
  by_cases q:b=p
  ·exact .inr (.inl (by rw [q]; exact hp))
  ·rw [qx q] at e; exact .inl e⟩
 refine ⟨rp.grow c fun b o e=>?_,c⟩
 by_cases q:b=p
 ·subst q; rw [qo] at e ⊢; exact e
 ·rw [qx q] at e ⊢; exact rp.sub b o e
theorem YS (rp:Rep C.K own F H σ ρ) (hp:H p=none):Rep C.K own F (upd H p u) σ ρ/\Chg No F H F (upd H p u)/\F p=none:=by
 have hF:F p=none:=by
  cases q:F p with
  | none=>rfl
  | some o=>rw [rp.sub p o q] at hp; cases hp
 have c:Chg No F H F (upd H p u):=⟨fun b o e _=>by rw [qx (qI e hp)]; exact e,fun b e=>by
  by_cases q:b=p
  ·rw [q,qo]; simp
  ·rw [qx q]; exact e,Same.refl _,fun b e=>.inl e⟩
 exact ⟨rp.grow c fun b o e=>by rw [qx (qI e hF)]; exact rp.sub b o e,c,hF⟩
theorem wE {x1} (h:PA X es (tAr C own as fr)) (ha:(as.all fun a=>decide (a=.vl))=true:=by decide):PE X (.Tuple es x1 pos) (tE C own .sh (zm fr)):=by
 refine jR (qdQ h) fun σ H Q ⟨F,ρ,rp,h⟩=>⟨F,ρ,rp,Po.bindA h fun vs F1 H1 ds ρ1 rp1 c1 av h1=>?_⟩
 have il:=av.isL ha
 have h1:Po C own .sh σ F1 H1 (if ds.length<=sizeLine then .ok (.tup ds,ρ1) else .bad) Q:=h1
 by_cases z:ds.length<=sizeLine
 ·rw [if_pos z] at h1
  refine ⟨by rw [il.length]; exact z,fun p hp=>?_⟩
  obtain ⟨rp2,c2⟩:=qec (u:=.tup vs) rp1 hp
  exact h1 _ _ _ rp2 c2.ofNo (.tup (.inl (.inl qo)) (il.mono c2.grow))
 ·rw [if_neg z] at h1; exact h1.elim
theorem kr (h:PA X es (tAr C own as fr)) (ha:(as.all fun a=>decide (a=.vl))=true:=by decide):PE X (.List es pos) (tE C own .fr (xO fr)):=by
 refine jR (qdR h) fun σ H Q ⟨F,ρ,rp,h⟩=>⟨F,ρ,rp,Po.bindA h fun vs F1 H1 ds ρ1 rp1 c1 av h1=>?_⟩
 have il:=av.isL ha
 have h1:Po C own .fr σ F1 H1 (if ds.length<=sizeLine then .ok (.lst ds,ρ1) else .bad) Q:=h1
 by_cases z:ds.length<=sizeLine
 ·rw [if_pos z] at h1
  refine ⟨by rw [il.length]; exact z,fun p hp=>?_⟩
  obtain ⟨rp2,c2,hF⟩:=YS (u:=.lst vs) rp1 hp
  exact h1 _ _ _ rp2 c2.ofNo ⟨p,rfl,hp,hF,vs,qo,il⟩
 ·rw [if_neg z] at h1; exact h1.elim
theorem Wl:PE X (.Dict [] [] pos) (tE C own .fr (dC (.dct []))):=by
 refine jR Gu fun σ H Q ⟨F,ρ,rp,h⟩ p hp=>?_
 obtain ⟨rp2,c2,hF⟩:=YS (u:=.dK []) rp hp
 exact h _ _ _ rp2 c2.ofNo ⟨p,rfl,hp,hF,[],qo,.nil⟩
noncomputable def ixD:D->D->Out D
 | .lst xs,.int i=>match atI xs i with
  | some d=>.ok d
  | none=>.bad
 | .tup xs,.int i=>match atI xs i with
  | some d=>.ok d
  | none=>.bad
 | .str x,.int i=>match atI x.cps.toList i with
  | some c=>.ok (.str ⟨#[c]⟩)
  | none=>.bad
 | .dct kvs,.str x=>match (kvs.find? fun kv=>decide (kv.1=bz x)) with
  | some kv=>.ok kv.2
  | none=>.bad
 | .dct kvs,.int x=>match (kvs.find? fun kv=>decide (kv.1=dS x)) with
  | some kv=>.ok kv.2
  | none=>.bad
 | _,_=>.bad
theorem IsL.atI {i:Int} (h:IsL K F vs ds) (e:L2.atI ds i=some d):∃ v,L2.atI vs i=some v/\Is K F v d:=by
 unfold L2.atI at e ⊢
 rw [h.length]
 cases q:ixN ds.length i with
 | none=>rw [q] at e; cases e
 | some j=>
  rw [q] at e
  exact h.getD e
theorem IsK.find {k:Key}:∀ {vs:List (Key×V)} {ds:List (Key×D)} {d:Key×D},IsK K F vs ds->(ds.find? fun kv=>decide (kv.1=k))=some d->∃ v,KB vs k=some v/\Is K F v d.2
 | _,_,_,.nil,e=>by simp at e
 | _,_,d,.cons (k:=k') (vs:=vs) h t,e=>by
  by_cases q:k'=k
  ·rw [bH (by simp [q])] at e
   cases e
   exact ⟨_,xN q,h⟩
  ·rw [bw (by simp [q])] at e
   obtain ⟨v,h1,h2⟩:=IsK.find t e
   exact ⟨v,by rw [yb q]; exact h1,h2⟩
theorem Wm (c:Nat):(⟨#[c]⟩:Str).length<=sizeLine:=by
 show 1<=sizeLine
 rw [sizeLine_eq]; decide
def qgT (K:Frag):R2:=fun x y H Q=>rIx K x y H Q\/∃ a v,x=.ref a/\DGet H a y (some v)/\Q v H
theorem qa2 (hu:X.A.units+1 < cLine):IxR X (qgT X.K):=by
 refine IxR.or qdV ?_
 intro value slice pins s σ H x y v u Q I rx ry h hs
 obtain ⟨a,w,rfl,g,q⟩:=h
 cases rx
 obtain ⟨T,ht⟩:∃ T,s.TypeIs (.ref a) T/\T = "dict":=⟨_,KM I g,rfl⟩
 obtain ⟨ht,rfl⟩:=ht
 exact tail_any ht PySem.slot_dict_getitem.lookup (YC hu I g ry fun w' s' I' r=>⟨w,H,I',r,q⟩) hs
end
variable {T:String}
section
variable {a b:Expr}
theorem qa3 {σ:St} {x y:V} {dx dy:D} {Q:VK} (hK:C.K=X.K) (sb:Same F H) (tx:TopIs C.K F H x dx) (ty:TopIs C.K F H y dy) (po:PoV C .sh F H (ixD dx dy) Q):qgT X.K x y H Q:=by
 rw [hK] at tx ty
 cases dx with
 | lst xs=>
  cases dy <;> try exact po.elim
  rename_i i
  obtain rfl:=ty.int
  obtain ⟨a,vs,rfl,p,t⟩:=tx.lst sb
  unfold ixD at po
  cases e:L2.atI xs i with
  | none=>simp only [e] at po; exact po.elim
  | some d=>
   simp only [e] at po
   obtain ⟨v,h1,h2⟩:=t.atI e
   exact .inl (.inl ⟨a,vs,i,v,rfl,rfl,p,h1,po v F H sb .refl (by rw [hK]; exact h2)⟩)
 | tup xs=>
  cases dy <;> try exact po.elim
  rename_i i
  obtain rfl:=ty.int
  obtain ⟨a,vs,rfl,p,t⟩:=tx.tup sb
  unfold ixD at po
  cases e:L2.atI xs i with
  | none=>simp only [e] at po; exact po.elim
  | some d=>
   simp only [e] at po
   obtain ⟨v,h1,h2⟩:=t.atI e
   exact .inl (.inr (.inl ⟨a,vs,i,v,rfl,rfl,p,h1,po v F H sb .refl (by rw [hK]; exact h2)⟩))
 | str z=>
  cases dy <;> try exact po.elim
  rename_i i
  obtain rfl:=ty.int
  obtain ⟨rfl,hz⟩:=tx.str
  unfold ixD at po
  cases e:L2.atI z.cps.toList i with
  | none=>simp only [e] at po; exact po.elim
  | some c=>
   simp only [e] at po
   exact .inl (.inr (.inr ⟨z,i,c,rfl,rfl,hz,e,po _ F H sb .refl (.str (Wm c))⟩))
 | dct kvs=>
  obtain ⟨a,kv,rfl,p,t⟩:=tx.dct sb
  cases dy with
  | int i=>
   obtain rfl:=ty.int
   unfold ixD at po
   cases e:(kvs.find? fun kv=>decide (kv.1=dS i)) with
   | none=>simp only [e] at po; exact po.elim
   | some d=>
    simp only [e] at po
    obtain ⟨v,h1,h2⟩:=t.find e
    exact .inr ⟨a,v,rfl,by rw [<-h1]; exact DGet.k (k:=dS i) p,po v F H sb .refl (by rw [hK]; exact h2)⟩
  | str z=>
   obtain ⟨rfl,_⟩:=ty.str
   unfold ixD at po
   cases e:(kvs.find? fun kv=>decide (kv.1=bz z)) with
   | none=>simp only [e] at po; exact po.elim
   | some d=>
    simp only [e] at po
    obtain ⟨v,h1,h2⟩:=t.find e
    exact .inr ⟨a,v,rfl,by rw [<-h1]; exact DGet.k (k:=bz z) p,po v F H sb .refl (by rw [hK]; exact h2)⟩
  | _=>exact po.elim
 | _=>exact po.elim
theorem jS (hK:C.K=X.K) (hu:X.A.units+64 < cLine) (ha:PE X a (tE C own ma fa)) (hb:PE X b (tE C own mb fb)) (hs:KI b) (hma:ma≠.any:=by decide):PE X (.Subscript a b pos) (tE C own .sh (d2 ixD fa fb)):=by
 refine jR (qdT (qa2 (by omega)) ha hb hs) fun σ H Q h=>?_
 obtain ⟨F,ρ,rp,h⟩:=Js (mb:=mb) hma h
 refine ⟨F,ρ,rp,?_⟩
 cases q:fa ρ with
 | ok p=>
  rw [q] at h
  obtain ⟨d,ρ1⟩:=p
  intro v F1 H1 rp1 c1 mo1
  obtain ⟨F2,ρ2,rp2,h2⟩:=h v F1 H1 rp1 c1 mo1
  refine ⟨F2,ρ2,rp2,?_⟩
  cases q2:fb ρ2 with
  | ok p=>
   rw [q2] at h2
   obtain ⟨d',ρ3⟩:=p
   intro w F3 H3 rp3 c3 mo3
   obtain ⟨F4,dx,dy,sb,tx,ty,po⟩:=h2 w F3 H3 rp3 c3 mo3
   exact qa3 (σ:=σ) hK sb tx ty po
  | exc c=>rw [q2] at h2; exact h2
  | bad=>rw [q2] at h2; exact h2.elim
 | exc c=>rw [q] at h; exact h
 | bad=>rw [q] at h; exact h.elim
def JB (X:Cx) (C:Ct) (m:Mo) (f:Value) (g:D->Out D):Prop:=uw X f (fun xs H Q=>∃ x F dx,xs=[x]/\Same F H/\TopIs C.K F H x dx/\PoV C m F H (g dx) Q)
theorem yP {Q:VK} {g:D->Out D} (h:tE C own m (d1 g fa) σ H Q):Gk (tE C own ma fa) qf1 σ H fun xs H1=>∃ x F dx,xs=[x]/\Same F H1/\TopIs C.K F H1 x dx/\PoV C m F H1 (g dx) Q:=by
 obtain ⟨F,ρ,rp,h⟩:=Gx (ma:=ma) h
 refine ⟨F,ρ,rp,?_⟩
 cases q:fa ρ with
 | ok p=>
  rw [q] at h
  obtain ⟨d,ρ1⟩:=p
  intro v F1 H1 rp1 c1 mo1
  obtain ⟨F2,dx,sb,tx,po⟩:=h v F1 H1 rp1 c1 mo1
  exact ⟨v,F2,dx,rfl,sb,tx,po⟩
 | exc c=>rw [q] at h; exact h
 | bad=>rw [q] at h; exact h.elim
theorem qG {id:String} {p:Pos} {g:D->Out D} (hc:JB X C m (.builtin id) g) (hg:Gl X x) (hm:X.mg x=none) (hv:bootBuiltins x=some (.builtin id)) (ha:PE X e (tE C own ma fa)) (hn:x ≠ "__name__":=by decide) (hdb:(x == ("__debug__":Str))=false:=by decide)
  (he:starEach [e] X.env=[(false,eval e X.env)]:=by exact qR rfl):PE X (.Call (.Name x p) [e] [] pos) (tE C own m (d1 g fa)):=
 jR (uZ hc hg hm hv (qV ha jM he) hn hdb (by rw [he]; rfl) rfl) fun _ _ _ h=>yP h
theorem wF {p:Pos} {g:D->Out D} (hc:JB X C m (.type T) g) (hg:Gl X x) (hm:X.mg x=none) (hv:bootBuiltins x=some (.type T)) (ha:PE X e (tE C own ma fa)) (hn:x ≠ "__name__":=by decide) (hdb:(x == ("__debug__":Str))=false:=by decide)
  (he:starEach [e] X.env=[(false,eval e X.env)]:=by exact qR rfl):PE X (.Call (.Name x p) [e] [] pos) (tE C own m (d1 g fa)):=
 jR (wA hc hg hm hv (qV ha jM he) hn hdb (by rw [he]; rfl) rfl) fun _ _ _ h=>yP h
noncomputable def jF:D->Out D
 | .str x=>.ok (.int x.length)
 | .lst xs=>.ok (.int xs.length)
 | .tup xs=>.ok (.int xs.length)
 | .dct xs=>.ok (.int xs.length)
 | _=>.bad
theorem IsK.length:∀ {vs:List (Key×V)} {ds:List (Key×D)},IsK K F vs ds->vs.length=ds.length
 | _,_,.nil=>rfl
 | _,_,.cons _ t=>congrArg (·+1) (IsK.length t)
theorem jB (hK:C.K=X.K):JB X C .sh (.builtin "len") jF:=by
 intro pins s σ H xs us Q I r h
 obtain ⟨x,F,dx,rfl,sb,tx,po⟩:=h
 cases dx with
 | str z=>
  obtain ⟨rfl,hz⟩:=tx.str
  exact gT pins s σ H _ us Q I r ⟨_,_,rfl,⟨hz,rfl⟩,po _ F H sb .refl (.int _)⟩
 | lst ds=>
  obtain ⟨a,vs,rfl,p,t⟩:=tx.lst sb
  exact gT pins s σ H _ us Q I r ⟨_,ds.length,rfl,.inl ⟨vs,by rw [<-hK]; exact p,t.length.symm⟩,po _ F H sb .refl (.int _)⟩
 | tup ds=>
  obtain ⟨a,vs,rfl,p,t⟩:=tx.tup sb
  exact gT pins s σ H _ us Q I r ⟨_,ds.length,rfl,.inr ⟨vs,by rw [<-hK]; exact p,t.length.symm⟩,po _ F H sb .refl (.int _)⟩
 | dct ds=>
  obtain ⟨a,vs,rfl,p,t⟩:=tx.dct sb
  refine YF pins s σ H _ us Q I r ⟨a,vs,rfl,p,?_⟩
  rw [t.length]
  exact po _ F H sb .refl (.int _)
 | _=>exact po.elim
noncomputable def jJ:D->D->Out D
 | .int i,.int j=>.ok (.int (i+j))
 | .str x,.str y=>if x.length+y.length<=sizeLine then .ok (.str (x++y)) else .bad
 | .lst xs,.lst ys=>if xs.length+ys.length<=sizeLine then .ok (.lst (xs++ys)) else .bad
 | .tup xs,.tup ys=>if xs.length+ys.length<=sizeLine then .ok (.tup (xs++ys)) else .bad
 | _,_=>.bad
theorem yQ (sb:Same F H) (hp:H p=none):Same (upd F p u) (upd H p u)/\Chg No F H (upd F p u) (upd H p u):=by
 have hF:F p=none:=by
  cases q:F p with
  | none=>rfl
  | some o=>rw [sb p o q] at hp; cases hp
 refine ⟨fun b o e=>?_,⟨fun b o e _=>by rw [qx (qI e hp)]; exact e,fun b e=>?_,fun b o e=>by rw [qx (qI e hF)]; exact e,fun b e=>?_⟩⟩
 ·by_cases q:b=p
  ·subst q; rw [qo] at e ⊢; exact e
  ·rw [qx q] at e ⊢; exact sb b o e
 ·by_cases q:b=p
  ·rw [q,qo]; simp
  ·rw [qx q]; exact e
 ·by_cases q:b=p
  ·exact .inr (.inl (by rw [q]; exact hp))
  ·rw [qx q] at e; exact .inl e
theorem vW (sb:Same F H) (hp:H p=none):Same F (upd H p u)/\Chg No F H F (upd H p u)/\F p=none:=by
 have hF:F p=none:=by
  cases q:F p with
  | none=>rfl
  | some o=>rw [sb p o q] at hp; cases hp
 refine ⟨fun b o e=>by rw [qx (qI e hF)]; exact sb b o e,⟨fun b o e _=>by rw [qx (qI e hp)]; exact e,fun b e=>?_,Same.refl _,fun b e=>.inl e⟩,hF⟩
 by_cases q:b=p
 ·rw [q,qo]; simp
 ·rw [qx q]; exact e
theorem KS (x y:Str):(x++y).length=x.length+y.length:=by
 show (x.cps++y.cps).size=_
 simp [fC]
theorem qcf:OpR X (binaryOp .Add) (fun x y H Q=>∃ l b xs zs,x=.ref l/\y=.ref b/\SqL X.K H l xs/\SqL X.K H b zs/\xs.length+zs.length<=sizeLine/\∀ p,H p=none->Q (.ref p) (upd H p (.lst (xs++zs)))):=by
 intro pins s σ H x y v u Q I rx ry h
 obtain ⟨l,b,xs,zs,rfl,rfl,h1,h2,hz,q⟩:=h
 cases rx
 cases ry
 obtain ⟨its,r1,p1,_⟩:=I.list h1
 obtain ⟨its2,r2,p2,_⟩:=I.list h2
 obtain ⟨⟨cls,dd,data,sl⟩,ho,hc,n,hd⟩:=id p1.isList
 obtain ⟨⟨cls2,dd2,data2,sl2⟩,ho2,hc2,n2,hd2⟩:=id p2.isList
 simp only at hc hd hc2 hd2
 subst hc hd hc2 hd2
 have hl1:=r1.length
 have hl2:=r2.length
 refine concat_meets ⟨_,ho,rfl⟩ ⟨_,ho2,rfl⟩ noFill_list_add seq_list_add PySem.F.slot_list_add PySem.F.entry_list_add (PySem.F.args_list_add_2 _ _)
  (list_addW l b its.toArray its2.toArray n n2 dd dd2 sl sl2 (by simp only [aq]; omega)) ⟨ho,ho2,?_⟩
 have ea:its.toArray++its2.toArray=(its++its2).toArray:=by simp
 rw [ea]
 exact ⟨.ref _,_,I.lnew (t':=s.toks) (r1.append r2) (by rw [ai]; exact hz),rfl,q _ I.fresh⟩
theorem qcg:OpR X (binaryOp .Add) (fun x y H Q=>∃ a b ys,x=.ref a/\y=.ref b/\SqT X.K H a []/\SqT X.K H b ys/\Q (.ref b) H):=by
 intro pins s σ H x y v u Q I rx ry h
 obtain ⟨a,b,ys,rfl,rfl,h1,h2,q⟩:=h
 cases rx
 cases ry
 obtain ⟨its,r1,p1,_⟩:=I.tuple h1
 obtain ⟨its2,r2,p2,_⟩:=I.tuple h2
 cases r1
 obtain ⟨⟨cls,dd,data,sl⟩,ho,hc,n,hd⟩:=id p1
 obtain ⟨⟨cls2,dd2,data2,sl2⟩,ho2,hc2,n2,hd2⟩:=id p2
 simp only at hc hd hc2 hd2
 subst hc hd hc2 hd2
 exact concat_meets ⟨_,ho,rfl⟩ ⟨_,ho2,rfl⟩ noFill_tuple_add seq_tuple_add dG dv (db _ _)
  (tuple_addW0 a b _ _ n n2 dd dd2 sl sl2 rfl) ⟨ho,ho2,⟨.ref b,H,I,rfl,q⟩⟩
theorem jk (hK:C.K=X.K):OpD X C .sh (binaryOp .Add) jJ:=by
 intro pins s σ H x y v u Q I rx ry h
 obtain ⟨F,dx,dy,sb,tx,ty,po⟩:=h
 cases dx with
 | int i=>
  cases dy <;> try exact po.elim
  obtain rfl:=tx.int
  obtain rfl:=ty.int
  exact qdI pins s σ H _ _ v u Q I rx ry ⟨_,_,rfl,rfl,po _ F H sb .refl (.int _)⟩
 | str a=>
  cases dy <;> try exact po.elim
  rename_i b
  obtain ⟨rfl,_⟩:=tx.str
  obtain ⟨rfl,_⟩:=ty.str
  have po:PoV C .sh F H (if a.length+b.length<=sizeLine then .ok (.str (a++b)) else .bad) Q:=po
  by_cases z:a.length+b.length<=sizeLine
  ·rw [if_pos z] at po
   exact Ux pins s σ H _ _ v u Q I rx ry ⟨_,_,rfl,rfl,z,po _ F H sb .refl (.str (by rw [KS]; exact z))⟩
  ·rw [if_neg z] at po; exact po.elim
 | lst xs=>
  cases dy <;> try exact po.elim
  rename_i ys
  obtain ⟨a,vs,rfl,p1,t1⟩:=tx.lst sb
  obtain ⟨b,ws,rfl,p2,t2⟩:=ty.lst sb
  have po:PoV C .sh F H (if xs.length+ys.length<=sizeLine then .ok (.lst (xs++ys)) else .bad) Q:=po
  by_cases z:xs.length+ys.length<=sizeLine
  ·rw [if_pos z] at po
   refine qcf pins s σ H _ _ v u Q I rx ry ⟨a,b,vs,ws,rfl,rfl,by rw [<-hK]; exact p1,by rw [<-hK]; exact p2,by rw [t1.length,t2.length]; exact z,fun p hp=>?_⟩
   obtain ⟨s2,c2⟩:=yQ (u:=.lst (vs++ws)) sb hp
   exact po _ _ _ s2 c2 (.lst (.inl (.inl qo)) ((t1.append t2).mono c2.grow))
  ·rw [if_neg z] at po; exact po.elim
 | tup xs=>
  cases dy <;> try exact po.elim
  rename_i ys
  obtain ⟨a,vs,rfl,p1,t1⟩:=tx.tup sb
  obtain ⟨b,ws,rfl,p2,t2⟩:=ty.tup sb
  have po:PoV C .sh F H (if xs.length+ys.length<=sizeLine then .ok (.tup (xs++ys)) else .bad) Q:=po
  by_cases z:xs.length+ys.length<=sizeLine
  ·rw [if_pos z] at po
   cases vs with
   | nil=>
    cases t1
    rcases ty with ty | ⟨_,_,ty⟩
    ·exact qcg pins s σ H _ _ v u Q I rx ry ⟨a,b,ws,rfl,rfl,by rw [<-hK]; exact p1,by rw [<-hK]; exact p2,po _ F H sb .refl ty⟩
    ·exact ty.elim
   | cons v0 vs=>
    refine qb1 pins s σ H _ _ v u Q I rx ry ⟨a,b,v0::vs,ws,rfl,rfl,by rw [<-hK]; exact p1,by rw [<-hK]; exact p2,by simp,by rw [t1.length,t2.length]; exact z,fun e=>?_,fun e p hp=>?_⟩
    ·subst e
     cases t2
     rcases tx with tx | ⟨_,_,tx⟩
     ·refine po _ F H sb .refl ?_
      rw [aZ]
      exact tx
     ·exact tx.elim
    ·obtain ⟨s2,c2⟩:=yQ (u:=.tup (v0::vs++ws)) sb hp
     exact po _ _ _ s2 c2 (.tup (.inl (.inl qo)) ((t1.append t2).mono c2.grow))
  ·rw [if_neg z] at po; exact po.elim
 | _=>exact po.elim
end
inductive PM where
 | val | io | tk
 deriving DecidableEq
noncomputable def xG:List PM->List V->List Addr
 | .val::ms,_::vs=>xG ms vs
 | .io::ms,.ref a::vs=>a::xG ms vs
 | .tk::ms,.ref a::vs=>a::xG ms vs
 | _::ms,_::vs=>xG ms vs
 | _,_=>[]
def ArgsIs (K:Frag) (F H:Hp):List PM->List V->List D->Prop
 | [],[],[]=>True
 | .val::ms,v::vs,d::ds=>Is K F v d/\ArgsIs K F H ms vs ds
 | .io::ms,v::vs,d::ds=>(∃ a,v=.ref a/\F a=none/\OwnIs K F H a d)/\ArgsIs K F H ms vs ds
 | .tk::ms,v::vs,d::ds=>(∃ a,v=.ref a/\F a=none/\OwnIs K F H a d)/\ArgsIs K F H ms vs ds
 | _,_,_=>False
def yg (K:Frag) (F H:Hp):List PM->List V->List D->Prop
 | [],_,_=>True
 | .io::ms,v::vs,d::ds=>(∃ a,v=.ref a/\F a=none/\OwnIs K F H a d)/\yg K F H ms vs ds
 | _::ms,_::vs,_::ds=>yg K F H ms vs ds
 | _,_,_=>False
abbrev LA (ms:List PM) (vs:List V):Addr->Prop:=fun b=>b∈xG ms vs
def PoG (K:Frag) (cv:Str->Value) (ms:List PM) (mr:Mo) (vs:List V) (F H:Hp) (Q:VK) (E:XK) (o:Out (D×List D)):Prop:=match o with
 | .ok (d,outs)=>∀ v F' H',Same F' H'->Chg (LA ms vs) F H F' H'->yg K F' H' ms vs outs->MoIs K mr H F' H' v d->Q v H'
 | .exc c o=>∀ F' H',Same F' H'->Chg (LA ms vs) F H F' H'->yg K F' H' ms vs (o.map (·.getD .non))->E (cv c) none H'
 | .bad=>False
def spD (K:Frag) (cv:Str->Value) (ms:List PM) (mr:Mo) (G:List D->Out (D×List D)):Sp:=fun vs H Q E=>∃ F ds,Same F H/\ArgsIs K F H ms vs ds/\(xG ms vs).Nodup/\PoG K cv ms mr vs F H Q E (G ds)
theorem ArgsIs.length:∀ {ms:List PM} {vs:List V} {ds:List D},ArgsIs K F H ms vs ds->vs.length=ms.length/\ds.length=ms.length
 | [],[],[],_=>⟨rfl,rfl⟩
 | .val::ms,v::vs,d::ds,h=>by have:=ArgsIs.length h.2; simp [this]
 | .io::ms,v::vs,d::ds,h=>by have:=ArgsIs.length h.2; simp [this]
 | .tk::ms,v::vs,d::ds,h=>by have:=ArgsIs.length h.2; simp [this]
 | [],_::_,_,h=>h.elim
 | [],[],_::_,h=>h.elim
 | .val::_,[],_,h=>h.elim
 | .val::_,_::_,[],h=>h.elim
 | .io::_,[],_,h=>h.elim
 | .io::_,_::_,[],h=>h.elim
 | .tk::_,[],_,h=>h.elim
 | .tk::_,_::_,[],h=>h.elim
noncomputable def kc (n:Nat):List PM->List Nat
 | []=>[]
 | .val::ms=>kc (n+1) ms
 | _::ms=>n::kc (n+1) ms
noncomputable def UD (n:Nat):List PM->List Nat
 | []=>[]
 | .io::ms=>n::UD (n+1) ms
 | _::ms=>UD (n+1) ms
variable {n:Nat}
theorem yh:∀ {ms:List PM} {i:Nat},i∈kc n ms->n<=i/\i < n+ms.length:=by
 intro ms
 induction ms generalizing n with
 | nil=>intro i h; simp [kc] at h
 | cons m ms ih=>
  intro i h
  cases m with
  | val=>have:=ih (n:=n+1) h; simp only [ap]; omega
  | io=>
   rcases ac.mp h with e | h
   ·simp only [ap]; omega
   ·have:=ih (n:=n+1) h; simp only [ap]; omega
  | tk=>
   rcases ac.mp h with e | h
   ·simp only [ap]; omega
   ·have:=ih (n:=n+1) h; simp only [ap]; omega
theorem GE:∀ {ms:List PM} {i:Nat},i∈UD n ms->i∈kc n ms:=by
 intro ms
 induction ms generalizing n with
 | nil=>intro i h; simp [UD] at h
 | cons m ms ih=>
  intro i h
  cases m with
  | val=>exact ih (n:=n+1) h
  | io=>
   rcases ac.mp h with e | h
   ·exact ac.mpr (.inl e)
   ·exact aa _ (ih (n:=n+1) h)
  | tk=>exact aa _ (ih (n:=n+1) h)
theorem UE:∀ {ms:List PM} {vs:List V} {ds:List D} {n:Nat},ArgsIs K F H ms vs ds ->
  (∀ j d,ds[j]?=some d->n+j∉kc n ms->∃ v,vs[j]?=some v/\Is K F v d) /\
  (∀ j d,ds[j]?=some d->n+j∈kc n ms->∃ a,vs[j]?=some (.ref a)/\F a=none/\OwnIs K F H a d):=by
 intro ms
 induction ms with
 | nil=>intro vs ds n h; cases vs <;> cases ds <;> first | exact h.elim | (refine ⟨fun j d e=>?_,fun j d e=>?_⟩ <;> simp at e)
 | cons m ms ih=>
  intro vs ds n h
  cases vs with
  | nil=>cases m <;> exact h.elim
  | cons v vs=>
   cases ds with
   | nil=>cases m <;> exact h.elim
   | cons d ds=>
    cases m with
    | val=>
     obtain ⟨h1,h2⟩:=h
     obtain ⟨i1,i2⟩:=ih (n:=n+1) h2
     refine ⟨fun j e hj hn=>?_,fun j e hj hn=>?_⟩
     ·cases j with
      | zero=>simp at hj; subst hj; exact ⟨v,rfl,h1⟩
      | succ j=>simpa using i1 j e (by simpa using hj) (by rw [show n+1+j=n+(j+1) by omega]; exact hn)
     ·cases j with
      | zero=>have:=yh (n:=n+1) hn; omega
      | succ j=>simpa using i2 j e (by simpa using hj) (by rw [show n+1+j=n+(j+1) by omega]; exact hn)
    | io=>
     obtain ⟨⟨a,rfl,h1⟩,h2⟩:=h
     obtain ⟨i1,i2⟩:=ih (n:=n+1) h2
     refine ⟨fun j e hj hn=>?_,fun j e hj hn=>?_⟩
     ·cases j with
      | zero=>exact absurd (ac.mpr (.inl rfl)) hn
      | succ j=>simpa using i1 j e (by simpa using hj) (fun z=>hn (aa _ (by rw [show n+(j+1)=n+1+j by omega]; exact z)))
     ·cases j with
      | zero=>simp at hj; subst hj; exact ⟨a,rfl,h1⟩
      | succ j=>
       have hm:n+1+j∈kc (n+1) ms:=by
        rcases ac.mp hn with z | z
        ·omega
        ·rw [show n+1+j=n+(j+1) by omega]; exact z
       simpa using i2 j e (by simpa using hj) hm
    | tk=>
     obtain ⟨⟨a,rfl,h1⟩,h2⟩:=h
     obtain ⟨i1,i2⟩:=ih (n:=n+1) h2
     refine ⟨fun j e hj hn=>?_,fun j e hj hn=>?_⟩
     ·cases j with
      | zero=>exact absurd (ac.mpr (.inl rfl)) hn
      | succ j=>simpa using i1 j e (by simpa using hj) (fun z=>hn (aa _ (by rw [show n+(j+1)=n+1+j by omega]; exact z)))
     ·cases j with
      | zero=>simp at hj; subst hj; exact ⟨a,rfl,h1⟩
      | succ j=>
       have hm:n+1+j∈kc (n+1) ms:=by
        rcases ac.mp hn with z | z
        ·omega
        ·rw [show n+1+j=n+(j+1) by omega]; exact z
       simpa using i2 j e (by simpa using hj) hm
theorem YT:∀ {ms:List PM} {vs:List V} {j:Nat} {a:Addr},n+j∈kc n ms->vs[j]?=some (.ref a)->a∈xG ms vs:=by
 intro ms
 induction ms generalizing n with
 | nil=>intro vs j a h; simp [kc] at h
 | cons m ms ih=>
  intro vs j a h e
  cases vs with
  | nil=>simp at e
  | cons v vs=>
   cases j with
   | zero=>
    simp at e; subst e
    cases m with
    | val=>have:=yh (n:=n+1) h; omega
    | io=>exact ac.mpr (.inl rfl)
    | tk=>exact ac.mpr (.inl rfl)
   | succ j=>
    have e':vs[j]?=some (.ref a):=by simpa using e
    have sub:n+1+j∈kc (n+1) ms:=by
     rw [show n+1+j=n+(j+1) by omega]
     cases m with
     | val=>exact h
     | io=>exact (ac.mp h).resolve_left (by omega)
     | tk=>exact (ac.mp h).resolve_left (by omega)
    have q:=ih (n:=n+1) sub e'
    cases m <;> cases v <;> first | exact q | exact aa _ q
theorem YU:∀ {ms:List PM} {vs:List V} {a:Addr},a∈xG ms vs->∃ j,n+j∈kc n ms/\vs[j]?=some (.ref a):=by
 intro ms
 induction ms generalizing n with
 | nil=>intro vs a h; cases vs <;> simp [xG] at h
 | cons m ms ih=>
  intro vs a h
  cases vs with
  | nil=>cases m <;> simp [xG] at h
  | cons v vs=>
   have up:∀ {b},b∈xG ms vs->∃ j,n+j∈kc n (m::ms)/\(v::vs)[j]?=some (.ref b):=fun hb=>by
    obtain ⟨j,h1,h2⟩:=ih (n:=n+1) hb
    refine ⟨j+1,?_,by simpa using h2⟩
    rw [show n+(j+1)=n+1+j by omega]
    cases m with
    | val=>exact h1
    | io=>exact aa _ h1
    | tk=>exact aa _ h1
   cases m with
   | val=>exact up (by cases v <;> exact h)
   | io=>
    cases v with
    | ref c=>
     rcases ac.mp h with e | h
     ·subst e; exact ⟨0,ac.mpr (.inl rfl),rfl⟩
     ·exact up h
    | _=>exact up h
   | tk=>
    cases v with
    | ref c=>
     rcases ac.mp h with e | h
     ·subst e; exact ⟨0,ac.mpr (.inl rfl),rfl⟩
     ·exact up h
    | _=>exact up h
theorem GF:∀ {ms:List PM} {vs:List V} {i j:Nat} {a:Addr},(xG ms vs).Nodup->n+i∈kc n ms->n+j∈kc n ms->vs[i]?=some (.ref a)->vs[j]?=some (.ref a)->i=j:=by
 intro ms
 induction ms generalizing n with
 | nil=>intro vs i j a _ h; simp [kc] at h
 | cons m ms ih=>
  intro vs i j a nd hi hj e1 e2
  cases vs with
  | nil=>simp at e1
  | cons v vs=>
   have sub:∀ {k},n+(k+1)∈kc n (m::ms)->n+1+k∈kc (n+1) ms:=fun {k} h=>by
    rw [show n+1+k=n+(k+1) by omega]
    cases m with
    | val=>exact h
    | io=>exact (ac.mp h).resolve_left (by omega)
    | tk=>exact (ac.mp h).resolve_left (by omega)
   have nd':(xG ms vs).Nodup:=by
    cases m <;> cases v <;> first | exact nd | exact (aK.mp nd).2
   have no0:∀ {k b},n+0∈kc n (m::ms)->v=.ref b->n+(k+1)∈kc n (m::ms)->vs[k]?=some (.ref b)->False:=fun {k b} h0 hv hk ek=>by
    subst hv
    have q:=YT (n:=n+1) (sub hk) ek
    cases m with
    | val=>have:=yh (n:=n+1) h0; omega
    | io=>exact (aK.mp nd).1 q
    | tk=>exact (aK.mp nd).1 q
   cases i with
   | zero=>
    cases j with
    | zero=>rfl
    | succ j=>exact (no0 hi (by simpa using e1) hj (by simpa using e2)).elim
   | succ i=>
    cases j with
    | zero=>exact (no0 hj (by simpa using e2) hi (by simpa using e1)).elim
    | succ j=>exact congrArg (·+1) (ih (n:=n+1) nd' (sub hi) (sub hj) (by simpa using e1) (by simpa using e2))
noncomputable def qw (N:List Str) (ds:List D):Sl:=ds.map some++cY (N.length - ds.length) none
variable {α:Type} {N:List Str}
theorem get_start {xs:List α} {x:α}:(xs.map some++cY (N.length - xs.length) none)[i]?=some (some x)↔xs[i]?=some x:=by
 by_cases h:i < xs.length
 ·rw [bJ (by simpa using h),aG]
  cases e:xs[i]? with
  | none=>simp
  | some y=>simp
 ·rw [bF (by simpa using h),dq]
  have e:xs[i]?=none:=bI.mpr (by omega)
  rw [e]
  split <;> simp
variable {ms:List PM}
theorem YV (sb:Same F H) (ar:ArgsIs K F H ms vs ds) (nd:(xG ms vs).Nodup):Rep K (kc 0 ms) F H (uY N vs) (qw N ds):=by
 obtain ⟨h1,h2⟩:=UE (n:=0) ar
 obtain ⟨l1,l2⟩:=ar.length
 refine ⟨sb,by simp [uY,qw,l1,l2],fun i d hi e=>?_,fun i d hi e=>?_,fun i hi=>?_,fun i j a hi hj e1 e2=>?_⟩
 ·obtain ⟨v,a,b⟩:=h1 i d (get_start.mp e) (by simpa using hi)
  exact ⟨v,get_start.mpr a,b⟩
 ·obtain ⟨v,a,b⟩:=h2 i d (get_start.mp e) (by simpa using hi)
  exact ⟨v,get_start.mpr a,b⟩
 ·have q:=yh hi
  have hl:i < ds.length:=by omega
  exact ⟨ds[i],get_start.mpr (by simp [hl])⟩
 ·exact GF (n:=0) nd (by simpa using hi) (by simpa using hj) (get_start.mp e1) (get_start.mp e2)
theorem oa_start:OA (kc 0 ms) (uY N vs) b↔LA ms vs b:=by
 constructor
 ·rintro ⟨i,hi,e⟩
  exact YT (n:=0) (by simpa using hi) (get_start.mp e)
 ·intro h
  obtain ⟨j,h1,h2⟩:=YU (n:=0) h
  exact ⟨j,by simpa using h1,get_start.mpr h2⟩
noncomputable def qv (ρ:Sl):Nat->List PM->List D
 | _,[]=>[]
 | n,.io::ms=>((ρ[n]?).getD none).getD .non::qv ρ (n+1) ms
 | n,_::ms=>.non::qv ρ (n+1) ms
theorem qch {σ:St} {N:List Str}:∀ {ms:List PM} {vs:List V} {n:Nat},vs.length=ms.length->(∀ i∈UD n ms,∃ d a,ρ[i]?=some (some d)/\vs[i - n]?=some (V.ref a)/\F a=none/\OwnIs K F H a d)->yg K F H ms vs (qv ρ n ms):=by
 intro ms
 induction ms with
 | nil=>intro vs n _ _; trivial
 | cons m ms ih=>
  intro vs n hl h
  cases vs with
  | nil=>simp at hl
  | cons v vs=>
   have rest:(∀ i∈UD (n+1) ms,i∈UD n (m::ms))->yg K F H ms vs (qv ρ (n+1) ms):=fun hs=>by
    refine ih (by simpa using hl) fun i hi=>?_
    obtain ⟨d,a,e1,e2,e3⟩:=h i (hs i hi)
    have q:=yh (GE hi)
    refine ⟨d,a,e1,?_,e3⟩
    rw [show i - n=(i - (n+1))+1 by omega] at e2
    simpa using e2
   cases m with
   | val=>exact rest fun i hi=>hi
   | io=>
    obtain ⟨d,a,e1,e2,e3⟩:=h n (ac.mpr (.inl rfl))
    refine ⟨⟨a,by simpa using e2,e3.1,?_⟩,rest fun i hi=>aa _ hi⟩
    rw [e1]
    exact e3.2
   | tk=>exact rest fun i hi=>hi
noncomputable def Fl.val:Fl->Option D
 | .nx=>some .non
 | .rt d=>some d
 | _=>none
noncomputable def kB (N:List Str) (ms:List PM) (f:Sl->Out (Fl×Sl)) (ds:List D):Out (D×List D):=match f (qw N ds) with
 | .ok (.nx,ρ)=>.ok (.non,qv ρ 0 ms)
 | .ok (.rt d,ρ)=>.ok (d,qv ρ 0 ms)
 | .ok _=>.bad
 | .exc c ρ=>.exc c ((qv ρ 0 ms).map some)
 | .bad=>.bad
theorem Wn:∀ (l:List D),(l.map some).map (fun x:Option D=>x.getD .non)=l
 | []=>rfl
 | a::l=>congrArg (a::·) (Wn l)
def Out.le {α:Type} (a b:Out α):Prop:=a=.bad\/a=b
theorem qci {f:Sl->Out (Fl×Sl)} {Q:VK} {o:Out (D×List D)} (hio:C.io=UD 0 ms) (hox:C.ox=C.io) (hmr:C.mr=.sh\/∀ ρ,(f (qw N ds))≠.ok (.nx,ρ)) (hsub:∀ i∈UD 0 ms,i∈own') (sb:Same F H) (ar:ArgsIs C.K F H ms vs ds) (nd:(xG ms vs).Nodup)
  (hG:Out.le o (kB N ms f ds)) (h:PoG C.K C.cv ms C.mr vs F H Q C.E o):tSt C (kc 0 ms) own' f { nx:=fun _ H'=>Q .non H',rt:=Q } (uY N vs) H:=by
 refine ⟨F,qw N ds,YV sb ar nd,?_⟩
 have hl:=ar.length.1
 have ch:∀ {F' H'},Chg (OA (kc 0 ms) (uY N vs)) F H F' H'->Chg (LA ms vs) F H F' H':=fun c=>c.mono fun x z=>oa_start.mp z
 have outs:∀ {σ':St} {ρ':Sl} {F' H':Hp},ZY C.K C.io F' H' σ' ρ'->(∀ i∈C.io,σ'[i]?=(uY N vs)[i]?)->yg C.K F' H' ms vs (qv ρ' 0 ms):=fun {σ' ρ' F' H'} io e=>by
  refine qch (N:=N) (σ:=σ') hl fun i hi=>?_
  have hi':i∈C.io:=by rw [hio]; exact hi
  obtain ⟨d,a,e1,e2,e3⟩:=io i hi'
  refine ⟨d,a,e1,?_,e3⟩
  rw [e i hi'] at e2
  exact get_start.mp e2
 rcases hG with e | e
 ·subst e; exact h.elim
 ·subst e
  unfold kB at h
  cases q:f (qw N ds) with
  | ok p=>
   rw [q] at h
   obtain ⟨fl,ρ'⟩:=p
   cases fl with
   | nx=>
    have hm:C.mr=.sh:=hmr.resolve_right fun z=>z ρ' q
    exact fun σ' F' H' n=>h .non F' H' n.rep.sub (ch n.chg) (outs (n.rep.ioIs (by rw [hio]; exact hsub)) n.io) (by rw [hm]; exact .non)
   | rt d=>exact fun v σ' F' H' s io c e mo=>h v F' H' s (ch c) (outs io e) mo
   | bk=>exact h.elim
   | ct=>exact h.elim
  | exc c ρ'=>
   rw [q] at h
   exact fun F' H' s io c'=>h F' H' s (ch c') (by rw [Wn]; exact outs (σ':=uY N vs) (by rw [<-hox]; exact io) fun _ _=>rfl)
  | bad=>rw [q] at h; exact h.elim
def qgf (K:Frag) (cv:Str->Value) (E:XK) (ms:List PM) (mr:Mo):Ct:=⟨K,cv,E,UD 0 ms,mr,[],UD 0 ms,fun _ h=>h⟩
theorem qgU {P:Program} {w:World} {K:Frag} {mg:Str->Option Value} {base:Heap} {CX:CXT} {x qual:Str} {st:Stmt} {f:Addr} {fd:FuncData} {N ps:List Str} {k:Nat} {cv:Str->Value} {ms:List PM} {mr:Mo} {own':List Nat} {fb:Sl->Out (Fl×Sl)} {G:List D->Out (D×List D)}
  (F:Fun K x qual st f fd) (S:FnScope N ps (qf st)) (hl:ms.length=ps.length) (hsub:∀ i∈UD 0 ms,i∈own') (hmr:mr=.sh\/∀ ds ρ,(fb (qw N ds))≠.ok (.nx,ρ))
  (hbody:∀ (cdv:Value) (A:Around) (outer:List Env) (s:Shared) (H:Hp) (E:XK),Room k (A.deeper (envOfC qual (qf st) s.heap.objs.size f cdv)) ->
   PSs (qbX CX P w K mg base N qual (qf st) f cdv A outer s H E) (vV st) (tSt (qgf K cv E ms mr) (kc 0 ms) own' fb))
  (hG:∀ ds,Out.le (G ds) (kB N ms fb ds)):FnOk P w K mg base CX (k+1) f fd ps (spD K cv ms mr G):=by
 obtain ⟨oc,od,kV,doc,pm,an,cdv,ct,osl,rfl,lk,hcd⟩:=F.ex
 refine qf3 lk hcd S (fun vs H Q E h=>?_) fun A outer s H vs Q E hr hsp=>?_
 ·obtain ⟨F,ds,_,ar,_⟩:=h
  rw [ar.length.1,hl]
 ·obtain ⟨F1,ds,sb,ar,nd,h⟩:=hsp
  refine ⟨_,hbody cdv A outer s H E hr,?_⟩
  exact qci (C:=qgf K cv E ms mr) rfl rfl (hmr.imp id fun z ρ=>z ds ρ) hsub sb ar nd (hG ds) h
noncomputable def JC:AK->PM
 | .vl=>.val
 | .sl _=>.io
 | .fr=>.tk
noncomputable def qy:List AK->List D->Sl->Option (List D)
 | [],[],_=>some []
 | .sl i::as,_::ds,ρ=>match ρ[i]? with
  | some (some d)=>(qy as ds ρ).map (d::·)
  | _=>none
 | .vl::as,d::ds,ρ=>(qy as ds ρ).map (d::·)
 | .fr::as,d::ds,ρ=>(qy as ds ρ).map (d::·)
 | _,_,_=>none
noncomputable def jl:List AK->List D->Sl->Sl
 | .sl i::as,d::outs,ρ=>jl as outs (ρ.set i (some d))
 | _::as,_::outs,ρ=>jl as outs ρ
 | _,_,ρ=>ρ
noncomputable def js:List AK->List Nat
 | []=>[]
 | .sl i::as=>i::js as
 | _::as=>js as
noncomputable def frA:List AK->Nat
 | []=>0
 | .fr::as=>frA as+1
 | _::as=>frA as
section
theorem yi:∀ {as:List AK} {vs:List V} {ds ds':List D},Rep K own F H σ ρ->(∀ i∈js as,i∈own)->ArgV K H0 F H σ as vs ds->qy as ds ρ=some ds'->ArgsIs K F H (as.map JC) vs ds'
 | [],vs,ds,ds',rp,hs,av,e=>by
  cases vs <;> cases ds <;> first | exact av.elim | (simp [qy] at e; subst e; trivial)
 | a::as,[],ds,ds',rp,hs,av,e=>by cases a <;> exact av.elim
 | a::as,v::vs,[],ds',rp,hs,av,e=>by cases a <;> exact av.elim
 | .vl::as,v::vs,d::ds,ds',rp,hs,av,e=>by
  cases q:qy as ds ρ with
  | none=>simp [qy,q] at e
  | some l=>
   have e:d::l=ds':=by simpa [qy,q] using e
   subst e
   exact ⟨av.1,yi rp hs av.2 q⟩
 | .fr::as,v::vs,d::ds,ds',rp,hs,av,e=>by
  cases q:qy as ds ρ with
  | none=>simp [qy,q] at e
  | some l=>
   have e:d::l=ds':=by simpa [qy,q] using e
   subst e
   obtain ⟨a,h1,_,h2,h3⟩:=av.1
   exact ⟨⟨a,h1,h2,h3⟩,yi rp hs av.2 q⟩
 | .sl i::as,v::vs,d::ds,ds',rp,hs,av,e=>by
  obtain ⟨h1,_,av2⟩:=av
  have hi:i∈own:=hs i (ac.mpr (.inl rfl))
  obtain ⟨d',hd⟩:=rp.opn i hi
  obtain ⟨a,e1,e2,e3⟩:=rp.ow i d' hi hd
  rw [h1] at e1
  cases e1
  cases q:qy as ds ρ with
  | none=>simp [qy,q,hd] at e
  | some l=>
   have e:d'::l=ds':=by simpa [qy,q,hd] using e
   subst e
   exact ⟨⟨a,rfl,e2,e3⟩,yi rp (fun j hj=>hs j (aa _ hj)) av2 q⟩
theorem kN:∀ {as:List AK} {vs:List V} {ds:List D} {b:Addr},ArgV K H0 F H σ as vs ds->b∈xG (as.map JC) vs->(∃ i∈js as,σ[i]?=some (some (V.ref b)))\/(H0 b=none/\frA as≠0/\H b≠none/\F b=none)
 | [],vs,ds,b,av,h=>by cases vs <;> simp [xG] at h
 | a::as,[],ds,b,av,h=>by cases a <;> exact av.elim
 | a::as,v::vs,[],b,av,h=>by cases a <;> exact av.elim
 | .vl::as,v::vs,d::ds,b,av,h=>by
  have h:b∈xG (as.map JC) vs:=by cases v <;> exact h
  exact kN (as:=as) av.2 h
 | .fr::as,v::vs,d::ds,b,av,h=>by
  obtain ⟨⟨a,rfl,h0,hF,o⟩,av2⟩:=av
  have h:b∈a::xG (as.map JC) vs:=h
  rcases ac.mp h with e | h
  ·subst e; exact .inr ⟨h0,by simp [frA],o.there,hF⟩
  ·rcases kN av2 h with z | ⟨z,_,z2⟩
   ·exact .inl z
   ·exact .inr ⟨z,by simp [frA],z2⟩
 | .sl i::as,v::vs,d::ds,b,av,h=>by
  obtain ⟨h1,_,av2⟩:=av
  have up:b∈xG (as.map JC) vs->(∃ j∈js (.sl i::as),σ[j]?=some (some (V.ref b)))\/(H0 b=none/\frA (.sl i::as)≠0/\H b≠none/\F b=none):=fun h=>by
   rcases kN av2 h with ⟨j,hj,e⟩ | z
   ·exact .inl ⟨j,aa _ hj,e⟩
   ·exact .inr z
  cases v with
  | ref a=>
   have h:b∈a::xG (as.map JC) vs:=h
   rcases ac.mp h with e | h
   ·subst e; exact .inl ⟨i,ac.mpr (.inl rfl),h1⟩
   ·exact up h
  | _=>exact up h
theorem ue:∀ {as:List AK} {vs:List V} {ds:List D},Rep K own F H σ ρ->(∀ x,OA own σ x->H0 x≠none)->(∀ i∈js as,i∈own)->(js as).Nodup->frA as<=1->ArgV K H0 F H σ as vs ds->(xG (as.map JC) vs).Nodup
 | [],vs,ds,rp,h0,hs,nd,hf,av=>by cases vs <;> simp [xG]
 | a::as,[],ds,rp,h0,hs,nd,hf,av=>by cases a <;> exact av.elim
 | a::as,v::vs,[],rp,h0,hs,nd,hf,av=>by cases a <;> exact av.elim
 | .vl::as,v::vs,d::ds,rp,h0,hs,nd,hf,av=>by
  have q:=ue (as:=as) rp h0 hs nd hf av.2
  cases v <;> exact q
 | .fr::as,v::vs,d::ds,rp,h0,hs,nd,hf,av=>by
  have hf':frA as=0:=by simp only [frA] at hf; omega
  obtain ⟨⟨a,rfl,hz,hF,o⟩,av2⟩:=av
  show (a::xG (as.map JC) vs).Nodup
  refine aK.mpr ⟨fun z=>?_,ue rp h0 hs nd (by omega) av2⟩
  rcases kN av2 z with ⟨i,hi,e⟩ | ⟨_,n,_⟩
  ·exact h0 a ⟨i,hs i hi,e⟩ hz
  ·exact n hf'
 | .sl i::as,v::vs,d::ds,rp,h0,hs,nd,hf,av=>by
  obtain ⟨h1,_,av2⟩:=av
  have hs':∀ j∈js as,j∈own:=fun j hj=>hs j (aa _ hj)
  have hi:i∈own:=hs i (ac.mpr (.inl rfl))
  obtain ⟨ni,nd'⟩:=aK.mp nd
  have q:=ue rp h0 hs' nd' hf av2
  cases v with
  | ref a=>
   show (a::xG (as.map JC) vs).Nodup
   refine aK.mpr ⟨fun z=>?_,q⟩
   rcases kN av2 z with ⟨j,hj,e⟩ | ⟨n,_⟩
   ·exact ni (by rw [rp.dis i j a hi (hs' j hj) h1 e]; exact hj)
   ·exact h0 a ⟨i,hi,h1⟩ n
  | _=>exact q
theorem vX:∀ {as:List AK} {outs:List D} {ρ:Sl} {i:Nat},i∉js as->(jl as outs ρ)[i]?=ρ[i]?
 | [],outs,ρ,i,h=>by cases outs <;> rfl
 | a::as,[],ρ,i,h=>by cases a <;> rfl
 | .vl::as,d::outs,ρ,i,h=>vX (as:=as) h
 | .fr::as,d::outs,ρ,i,h=>vX (as:=as) h
 | .sl j::as,d::outs,ρ,i,h=>by
  have h':i≠j/\i∉js as:=by simpa [js] using h
  show (jl as outs (ρ.set j (some d)))[i]?=_
  rw [vX h'.2,aw (bv h'.1)]
theorem xP:∀ {as:List AK} {outs:List D} {ρ:Sl},(jl as outs ρ).length=ρ.length
 | [],outs,ρ=>by cases outs <;> rfl
 | a::as,[],ρ=>by cases a <;> rfl
 | .vl::as,d::outs,ρ=>xP (as:=as)
 | .fr::as,d::outs,ρ=>xP (as:=as)
 | .sl j::as,d::outs,ρ=>by
  show (jl as outs (ρ.set j (some d))).length=_
  rw [xP,cy]
theorem gZ {F' H':Hp}:∀ {as:List AK} {vs:List V} {ds outs:List D} {ρ:Sl},(js as).Nodup->(∀ i∈js as,i < ρ.length)->ArgV K H0 F H σ as vs ds->yg K F' H' (as.map JC) vs outs->∀ i∈js as,∃ d a,(jl as outs ρ)[i]?=some (some d)/\σ[i]?=some (some (V.ref a))/\F' a=none/\OwnIs K F' H' a d
 | [],vs,ds,outs,ρ,nd,hl,av,o,i,hi=>by simp [js] at hi
 | a::as,[],ds,outs,ρ,nd,hl,av,o,i,hi=>by cases a <;> exact av.elim
 | a::as,v::vs,[],outs,ρ,nd,hl,av,o,i,hi=>by cases a <;> exact av.elim
 | a::as,v::vs,d::ds,[],ρ,nd,hl,av,o,i,hi=>by cases a <;> exact o.elim
 | .vl::as,v::vs,d::ds,u::outs,ρ,nd,hl,av,o,i,hi=>gZ (as:=as) nd hl av.2 o i hi
 | .fr::as,v::vs,d::ds,u::outs,ρ,nd,hl,av,o,i,hi=>gZ (as:=as) nd hl av.2 o i hi
 | .sl j::as,v::vs,d::ds,u::outs,ρ,nd,hl,av,o,i,hi=>by
  obtain ⟨ni,nd'⟩:=aK.mp nd
  obtain ⟨h1,_,av2⟩:=av
  obtain ⟨⟨a,e,hF,ow⟩,o2⟩:=o
  subst e
  rcases ac.mp hi with e | hi
  ·subst e
   refine ⟨u,a,?_,h1,hF,ow⟩
   show (jl as outs (ρ.set i (some u)))[i]?=_
   rw [vX ni,aH (hl i (ac.mpr (.inl rfl)))]
  ·exact gZ (as:=as) (ρ:=ρ.set j (some u)) nd' (fun k hk=>by rw [cy]; exact hl k (aa _ hk)) av2 o2 i hi
end
noncomputable def qt (as:List AK) (G:List D->Out (D×List D)) (fr:Sl->Out (List D×Sl)):Sl->Out (D×Sl):=fun ρ=>(fr ρ).bind fun p=>match qy as p.1 p.2 with
 | some ds=>match G ds with
  | .ok q=>.ok (q.1,jl as q.2 p.2)
  | .exc c o=>.exc c (jl as (o.map (·.getD .non)) p.2)
  | .bad=>.bad
 | none=>.bad
variable {G:List D->Out (D×List D)} {mr:Mo} {ps:List Str}
section
variable {fr:Sl->Out (List D×Sl)}
theorem Wo {F' H':Hp} {outs:List D} (rp:Rep C.K own F H σ ρ) (h0:∀ x,OA own σ x->H0 x≠none) (hs:∀ i∈js as,i∈own) (nd:(js as).Nodup) (av:ArgV C.K H0 F H σ as vs ds)
  (sb:Same F' H') (c:Chg (LA (as.map JC) vs) F H F' H') (o:yg C.K F' H' (as.map JC) vs outs):Rep C.K own F' H' σ (jl as outs ρ):=by
 have pin:=gZ (ρ:=ρ) nd (fun i hi=>by
  obtain ⟨d,e⟩:=rp.opn i (hs i hi)
  exact (aA.mp e).1) av o
 refine ⟨sb,by rw [xP]; exact rp.len,fun i d hi e=>?_,fun i d hi e=>?_,fun i hi=>?_,rp.dis⟩
 ·rw [vX (fun z=>hi (hs i z))] at e
  obtain ⟨v,h1,h2⟩:=rp.val i d hi e
  exact ⟨v,h1,h2.mono c.grow⟩
 ·by_cases q:i∈js as
  ·obtain ⟨d',a,e1,e2,e3,e4⟩:=pin i q
   rw [e1] at e
   cases e
   exact ⟨a,e2,e3,e4⟩
  ·rw [vX q] at e
   obtain ⟨a,h1,h2,h3⟩:=rp.ow i d hi e
   have nl:¬LA (as.map JC) vs a:=fun z=>by
    rcases kN av z with ⟨j,hj,e'⟩ | ⟨n,_⟩
    ·exact q (by rw [rp.dis i j a hi (hs j hj) h1 e']; exact hj)
    ·exact h0 a ⟨i,hi,h1⟩ n
   refine ⟨a,h1,?_,h3.grow c.grow fun o' q'=>c.keep a o' q' nl⟩
   cases q':F' a with
   | none=>rfl
   | some u=>
    rcases c.new a (by rw [q']; simp) with z | z | z
    ·exact absurd h2 z
    ·exact absurd z h3.there
    ·exact absurd z nl
 ·by_cases q:i∈js as
  ·obtain ⟨d',a,e1,_⟩:=pin i q
   exact ⟨d',e1⟩
  ·rw [vX q]
   exact rp.opn i hi
theorem qcj {Q:VK} (hio:∀ i∈C.ox,i∈own) (hs:∀ i∈js as,i∈own) (nd:(js as).Nodup) (hf:frA as<=1) (h:tE C own mr (qt as G fr) σ H Q) :
  tAr C own as fr σ H fun vs H1=>spD C.K C.cv (as.map JC) mr G (vs++[]) H1 Q C.E:=by
 obtain ⟨F,ρ,rp,h⟩:=h
 have h0:∀ x,OA own σ x->H x≠none:=fun x z=>(rp.OA_there z).1
 refine ⟨F,ρ,rp,?_⟩
 unfold qt at h
 cases q0:fr ρ with
 | ok p=>
  rw [q0] at h
  obtain ⟨ds,ρ1⟩:=p
  intro vs F1 H1 rp1 c1 av
  rw [aZ]
  have h1:Po C own mr σ F H (match qy as ds ρ1 with | some ds=>(match G ds with | .ok q=>.ok (q.1,jl as q.2 ρ1) | .exc c o=>.exc c (jl as (o.map (·.getD .non)) ρ1) | .bad=>.bad) | none=>.bad) Q:=h
  cases q:qy as ds ρ1 with
  | none=>simp only [q] at h1; exact h1.elim
  | some ds'=>
   simp only [q] at h1
   have lo:∀ x,LA (as.map JC) vs x->OA own σ x\/H x=none:=fun x z=>by
    rcases kN av z with ⟨i,hi,e⟩ | ⟨n,_⟩
    ·exact .inl ⟨i,hs i hi,e⟩
    ·exact .inr n
   refine ⟨F1,ds',rp1.sub,yi rp1 hs av q,ue rp1 h0 hs nd hf av,?_⟩
   cases q2:G ds' with
   | ok p=>
    rw [q2] at h1
    obtain ⟨d,outs⟩:=p
    exact fun v F' H' sb c o mo=>h1 v F' H' (Wo rp1 h0 hs nd av sb c o) (c1.trans c lo) (MoIs.back (Ha:=H1) c1 mo)
   | exc x o=>rw [q2] at h1; exact fun F' H' sb c outs=>h1 F' H' sb ((Wo rp1 h0 hs nd av sb c outs).ioIs hio) (c1.trans c lo)
   | bad=>rw [q2] at h1; exact h1.elim
 | exc c=>rw [q0] at h; exact h
 | bad=>rw [q0] at h; exact h.elim
theorem qck {CX:CXT} {k:Nat} {f:Addr} {fd:FuncData} {p pos:Pos} (F:FnOk X.prog X.w X.K X.mg X.base CX k f fd ps (spD C.K C.cv ms mr G)) (hr:Room k X.A) (hg:Gl X x) (hm:X.mg x=some (.ref f)) (hk:keepIn X.K (.ref f)=true) (hb:Binds X.K fd ps []) (hx:gC CX X C.E)
  (ha:PA X (e::es) (tAr C own as fr)) (hms:ms=as.map JC:=by rfl) (hs:∀ i∈js as,i∈own:=by decide) (nd:(js as).Nodup:=by decide) (hf:frA as<=1:=by decide) (hio:∀ i∈C.ox,i∈own:=by exact zk rfl) (hdb:(x == ("__debug__":Str))=false:=by decide) (he:starEach (e::es) X.env=(false,eval e X.env)::starEach es X.env:=by exact kq rfl)
  (hpl:(backTo pos (starEach es X.env)).any (·.1)=false:=by exact gX rfl):PE X (.Call (.Name x p) (e::es) [] pos) (tE C own mr (qt as G fr)):=by
 subst hms
 exact jR (qbW F hr hg hm hk hb .nil hx ha hdb he hpl) fun σ H Q h=>qcj hio hs nd hf h
end
structure ItIs (K:Frag) (F:Hp) (J:It) (ds:List D):Prop where
 go:∀ i H,i < ds.length->Same F H->J.go i H
 yld:∀ i Fi H x H' d,ds[i]?=some d->Same F Fi->Same Fi H->J.yld i H x H'->∃ F',Chg No Fi H F' H'/\Same F' H'/\Is K F' x d
 stop:∀ i H,ds.length<=i->Same F H->J.stop i H
def PoI (C:Ct) (own:List Nat) (σ:St) (F H:Hp) (r:Out (List D×Sl)) (R:It->Hp->Prop):Prop:=match r with
 | .ok (ds,ρ')=>∀ J F' H',Rep C.K own F' H' σ ρ'->Chg (OA own σ) F H F' H'->ItIs C.K F' J ds->R J H'
 | .exc c ρ'=>∀ F' H',Same F' H'->ZY C.K C.ox F' H' σ ρ'->Chg (OA own σ) F H F' H'->C.E (C.cv c) none H'
 | .bad=>False
def tIt (C:Ct) (own:List Nat) (f:Sl->Out (List D×Sl)):TI:=fun σ H R=>∃ F ρ,Rep C.K own F H σ ρ/\PoI C own σ F H (f ρ) R
noncomputable def qed:D->Out (List D)
 | .lst xs=>.ok xs
 | .tup xs=>.ok xs
 | _=>.bad
noncomputable def qhB (f:Sl->Out (D×Sl)):Sl->Out (List D×Sl):=fun ρ=>(f ρ).bind fun p=>(qed p.1).bind fun ds=>.ok (ds,p.2)
theorem PoI.bindV {m:Mo} {k:D×Sl->Out (List D×Sl)} {Q:It->Hp->Prop} {R:VK} (hp:PoI C own σ F H (o.bind k) Q)
  (h:∀ v F1 H1 d ρ1,Rep C.K own F1 H1 σ ρ1->Chg (OA own σ) F H F1 H1->MoIs C.K m H F1 H1 v d->PoI C own σ F H (k (d,ρ1)) Q->R v H1):Po C own m σ F H o R:=by
 cases o with
 | ok p=>exact fun v F1 H1 rp c mo=>h v F1 H1 p.1 p.2 rp c mo hp
 | exc x=>exact hp
 | bad=>exact hp.elim
variable {g:D->Sl->Out Sl} {tg iter:Expr} {xs:List V} {gs:List D->Sl->Out Sl} {fi:Sl->Out (List D×Sl)}
section
theorem YW {t t':TI} (h:PI X tg e t) (i:∀ σ H Q,t' σ H Q->t σ H Q):PI X tg e t':=⟨fun pins s σ H R I hw=>h pins s σ H R I (i σ H R hw)⟩
theorem qee (p:SqL K F a xs) (t:IsL K F xs ds):ItIs K F (Itl K a) ds where
 go:=fun i H hi s=>by
  have hx:i < xs.length:=by rw [t.length]; exact hi
  exact ⟨xs,xs[i],s.seq p,by simp [hx]⟩
 yld:=fun i Fi H x H' d e s1 s2 y=>by
  obtain ⟨rfl,y⟩:=y
  obtain ⟨v,h1,h2⟩:=t.getD e
  have q:=y xs ((s1.trans s2).seq p)
  rw [h1] at q
  cases q
  exact ⟨Fi,.refl,s2,h2.mono s1⟩
 stop:=fun i H hi s=>⟨xs,s.seq p,by rw [t.length]; exact hi⟩
theorem qef (p:SqT K F a xs) (t:IsL K F xs ds):ItIs K F (Itt K a) ds where
 go:=fun i H hi s=>by
  have hx:i < xs.length:=by rw [t.length]; exact hi
  exact ⟨xs,xs[i],qD s p,by simp [hx]⟩
 yld:=fun i Fi H x H' d e s1 s2 y=>by
  obtain ⟨rfl,y⟩:=y
  obtain ⟨v,h1,h2⟩:=t.getD e
  have q:=y xs (qD (s1.trans s2) p)
  rw [h1] at q
  cases q
  exact ⟨Fi,.refl,s2,h2.mono s1⟩
 stop:=fun i H hi s=>⟨xs,qD s p,by rw [t.length]; exact hi⟩
noncomputable def xQ (lo:Int) (n:Nat):List D:=(aF n).map fun k=>.int (lo+(k:Nat))
theorem qa4 {lo:Int}:ItIs K F (Itr lo n) (xQ lo n) where
 go:=fun i H hi _=>by
  have:i < n:=by simpa [xQ] using hi
  exact this
 yld:=fun i Fi H x H' d e s1 s2 y=>by
  obtain ⟨rfl,rfl⟩:=y
  have e:d=.int (lo+i):=by
   unfold xQ at e
   rw [aG] at e
   cases q:(aF n)[i]? with
   | none=>rw [q] at e; cases e
   | some k=>
    rw [q] at e
    have hk:k=i:=by
     have:=aA.mp q
     obtain ⟨_,z⟩:=this
     simpa using z.symm
    subst hk
    exact (aT.inj e).symm
  subst e
  exact ⟨Fi,.refl,s2,.int _⟩
 stop:=fun i H hi _=>by
  have:n<=i:=by simpa [xQ] using hi
  exact this
noncomputable def kx (f:Sl->Out (D×Sl)):Sl->Out (List D×Sl):=fun ρ=>(f ρ).bind fun p=>match p.1 with
 | .int j=>if -(2 ^ 62)<=j/\j < 2 ^ 62 then .ok (xQ 0 j.toNat,p.2) else .bad
 | _=>.bad
theorem uf {p:Pos} (hg:Gl X "range") (hm:X.mg "range"=none) (h:PE X e (tE C own m f)) (hs:starEach [e] X.env=[(false,eval e X.env)]:=by exact qR rfl):PI X tg (.Call (.Name "range" p) [e] [] pos) (tIt C own (kx f)):=by
 refine YW (Yo hg hm (qV h jM hs) hs) fun σ H R ⟨F,ρ,rp,h⟩=>⟨F,ρ,rp,PoI.bindV h fun v F1 H1 d ρ1 rp1 c1 mo1 h1=>?_⟩
 cases d with
 | int j=>
  obtain rfl:=mo1.top.int
  have h1:PoI C own σ F H (if -(2 ^ 62)<=j/\j < 2 ^ 62 then .ok (xQ 0 j.toNat,ρ1) else .bad) R:=h1
  by_cases z:-(2 ^ 62)<=j/\j < 2 ^ 62
  ·rw [if_pos z] at h1
   exact ⟨j,rfl,z.1,z.2,h1 _ F1 H1 rp1 c1 qa4⟩
  ·rw [if_neg z] at h1; exact h1.elim
 | _=>exact h1.elim
def tGd (C:Ct) (own:List Nat) (g:D->Sl->Out Sl):TG:=fun v σ H Q=>∃ F ρ d,Rep C.K own F H σ ρ/\Is C.K F v d/\∃ ρ',g d ρ=.ok ρ'/\∀ σ',Rep C.K own F H σ' ρ'->(∀ b,OA own σ' b->OA own σ b)->(∀ i∈C.io,σ'[i]?=σ[i]?)->Q σ' H
def qfn (C:Ct) (own:List Nat) (g:List D->Sl->Out Sl):TGs:=fun vs σ H Q=>∃ F ρ ds,Rep C.K own F H σ ρ/\IsL C.K F vs ds/\∃ ρ',g ds ρ=.ok ρ'/\∀ σ',Rep C.K own F H σ' ρ'->(∀ b,OA own σ' b->OA own σ b)->(∀ i∈C.io,σ'[i]?=σ[i]?)->Q σ' H
theorem qeg {t t':TG} (h:PG X e t) (i:∀ v σ H Q,t' v σ H Q->t v σ H Q):PG X e t':=⟨fun pins s σ H v u Q I r hw=>h pins s σ H v u Q I r (i v σ H Q hw)⟩
theorem qa5 {t t':TGs} (h:PGs X es t) (i:∀ v σ H Q,t' v σ H Q->t v σ H Q):PGs X es t':=⟨fun pins s σ H v u Q I r hw=>h pins s σ H v u Q I r (i v σ H Q hw)⟩
noncomputable def gNm (i:Nat):D->Sl->Out Sl:=fun d ρ=>if i < ρ.length then .ok (ρ.set i (some d)) else .bad
theorem gE {own:List Nat} (h:i∉own):wy own [i]=own:=by
 unfold wy
 rw [d8]
 intro j hj
 simp only [am,decide_eq_true_eq]
 exact fun z=>h (by rw [<-z]; exact hj)
theorem qu (hN:X.N.Nodup) (hi:X.N[i]?=some x) (hx:Loc X.env.scope x) (ho:i∉own:=by decide) (hio:i∉C.io:=by exact VZ rfl) (hf:X.fn x=true\/X.env.scope.names.lookup x=some .local:=by first | exact .inl rfl | exact .inr rfl):PG X (.Name x pos) (tGd C own (gNm i)):=by
 refine qeg (qbP hN hi hx hf) fun v σ H Q ⟨F,ρ,d,rp,is,ρ',e,k⟩=>?_
 unfold gNm at e
 by_cases z:i < ρ.length
 ·rw [if_pos z] at e
  cases e
  have r2:=rp.put z is
  rw [gE ho] at r2
  refine k _ r2 (fun b q=>?_) fun j hj=>aw fun q=>hio (by rw [q]; exact hj)
  have q':OA (wy own [i]) (σ.set i (some v)) b:=by rw [gE ho]; exact q
  exact q'.put
 ·rw [if_neg z] at e; cases e
noncomputable def ky:List D->Sl->Out Sl
 | [],ρ=>.ok ρ
 | _::_,_=>.bad
noncomputable def qJ (g:D->Sl->Out Sl) (gs:List D->Sl->Out Sl):List D->Sl->Out Sl
 | d::ds,ρ=>(g d ρ).bind fun ρ1=>gs ds ρ1
 | [],_=>.bad
theorem kC:PGs X [] (qfn C own ky):=by
 refine qa5 qbQ fun vs σ H Q ⟨F,ρ,ds,rp,is,ρ',e,k⟩=>?_
 cases is with
 | nil=>cases e; exact ⟨rfl,k σ rp (fun _ z=>z) fun _ _=>rfl⟩
 | cons _ _=>cases e
theorem qQ (h1:PG X e (tGd C own g)) (h2:PGs X es (qfn C own gs)) (hs:(assignEach (e::es) X.env).map (·.2)=assign e X.env::(assignEach es X.env).map (·.2):=by rfl):PGs X (e::es) (qfn C own (qJ g gs)):=by
 refine qa5 (Ge h1 h2 hs) fun vs σ H Q ⟨F,ρ,ds,rp,is,ρ',e,k⟩=>?_
 cases is with
 | nil=>cases e
 | @cons v d vs ds a t=>
  have e:(g d ρ).bind (fun ρ1=>gs ds ρ1)=.ok ρ':=e
  cases q:g d ρ with
  | ok ρ1=>
   rw [q] at e
   exact ⟨v,vs,rfl,F,ρ,d,rp,a,ρ1,q,fun σ1 rp1 oa1 io1=>⟨F,ρ1,ds,rp1,t,ρ',e,fun σ2 rp2 oa2 io2=>k σ2 rp2 (fun b z=>oa1 b (oa2 b z)) fun i hi=>(io2 i hi).trans (io1 i hi)⟩⟩
  | exc c=>rw [q] at e; cases e
  | bad=>rw [q] at e; cases e
noncomputable def kz (n:Nat) (gs:List D->Sl->Out Sl):D->Sl->Out Sl
 | .tup ds,ρ=>if ds.length=n then gs ds ρ else .bad
 | _,_=>.bad
theorem vY {k:Nat} (hK:C.K=X.K) (hc:X.calm=true) (h:PGs X es (qfn C own gs)) (hn:(assignEach es X.env).length=n:=by rfl) (hst:(assignEach es X.env).findIdx? (·.1)=none:=by rfl):PG X (.Tuple es k pos) (tGd C own (kz n gs)):=by
 refine qeg (qdD hc h hn hst) fun v σ H Q ⟨F,ρ,d,rp,is,ρ',e,k⟩=>?_
 cases is with
 | @tup a xs ds p t=>
  have e:(if ds.length=n then gs ds ρ else .bad)=.ok ρ':=e
  by_cases z:ds.length=n
  ·rw [if_pos z] at e
   exact ⟨a,xs,rfl,by rw [<-hK]; exact qD rp.sub p,by rw [t.length]; exact z,F,ρ,ds,rp,t,ρ',e,k⟩
  ·rw [if_neg z] at e; cases e
 | _=>cases e
noncomputable def qfo (fe:Sl->Out (D×Sl)) (g:D->Sl->Out Sl):Sl->Out (Fl×Sl):=fun ρ=>(fe ρ).bind fun p=>match g p.1 p.2 with
 | .ok ρ'=>.ok (.nx,ρ')
 | _=>.bad
theorem YX (he:PE X e (tE C own m f)) (hg:PG X tg (tGd C own g)) (hm:m≠.any:=by decide) (hs:swapsWithSole [tg] e pos.line X.env=pure false:=by rfl) (hw:swappedStores [tg] e X.env=pure none:=by rfl)
  (h1:(assignEach [tg] X.env).map (·.2)=[assign tg X.env]:=by rfl):PS X (.Assign [tg] e pos) (tSt C own own (qfo f g)):=by
 refine gm (qaX (ux he hm) hg hs hw h1) fun D σ H ⟨F,ρ,rp,h⟩=>⟨F,ρ,rp,PoS.bindE h fun v F1 H1 d ρ1 rp1 c1 mo1 h1=>?_⟩
 cases q:g d ρ1 with
 | ok ρ'=>
  simp only [q] at h1
  exact ⟨F1,ρ1,d,rp1,mo1,ρ',q,fun σ' rp' oa io=>h1 σ' F1 H1 ⟨rp',.refl,fun b z=>.inl (oa b z),io⟩⟩
 | exc c=>simp only [q] at h1; exact h1.elim
 | bad=>simp only [q] at h1; exact h1.elim
noncomputable def wz (g:D->Sl->Out Sl) (fb:Sl->Out (Fl×Sl)):List D->Sl->Out (Fl×Sl)
 | [],ρ=>.ok (.nx,ρ)
 | d::ds,ρ=>(g d ρ).plain.bind fun ρ1=>(fb ρ1).bind fun p=>match p.1 with
  | .nx=>wz g fb ds p.2
  | .ct=>wz g fb ds p.2
  | .bk=>.ok (.nx,p.2)
  | .rt v=>.ok (.rt v,p.2)
noncomputable def KU (fi:Sl->Out (List D×Sl)) (g:D->Sl->Out Sl) (fb:Sl->Out (Fl×Sl)):Sl->Out (Fl×Sl):=fun ρ=>(fi ρ).bind fun p=>wz g fb p.1 p.2
theorem vE {body:List Stmt} {fb:Sl->Out (Fl×Sl)} (hp:PassesOwn (model X.prog X.w) X.A X.env X.xe) (hc:X.calm=true) (hi:PI X tg iter (tIt C own fi)) (hg:PG X tg (tGd C own g))
  (hb:PSs X body (tSt { C with ol:=own } own own fb)) (hs:∀ x,foldedSetIterable iter X.env x=pure x:=by intro _; rfl):PS X (.For tg iter body [] pos) (tSt C own own (KU fi g fb)):=by
 refine gm (qdG hp hc hi hg hb hs) fun D σ H ⟨F,ρ,rp,h⟩=>⟨F,ρ,rp,?_⟩
 unfold KU at h
 cases q0:fi ρ with
 | exc c=>rw [q0] at h; exact h
 | bad=>rw [q0] at h; exact h.elim
 | ok p=>
  rw [q0] at h
  obtain ⟨ds,ρ1⟩:=p
  intro J F1 H1 rp1 c1 it
  have h:PoS C own own σ F H (wz g fb ds ρ1) D:=h
  refine ⟨fun i m σ' H'=>m=ds.length - i/\i<=ds.length/\∃ F' ρ',Nx C own own σ F H ρ' σ' F' H'/\Same F1 F'/\PoS C own own σ' F' H' (wz g fb (ds.drop i) ρ') D,⟨ds.length,by simp,bB _,F1,ρ1,.ofE rp1 c1,Same.refl _,h.shift (.ofE rp1 c1)⟩,?_⟩
  rintro i m σ' H' ⟨rfl,hle,F',ρ',nx,gr,po⟩
  by_cases hlt:i < ds.length
  ·have hd:ds.drop i=ds[i]::ds.drop (i+1):=List.drop_eq_getElem_cons hlt
   rw [hd] at po
   have po:PoS C own own σ' F' H' ((g ds[i] ρ').plain.bind fun ρ1=>(fb ρ1).bind fun p=>match p.1 with | .nx=>wz g fb (ds.drop (i+1)) p.2 | .ct=>wz g fb (ds.drop (i+1)) p.2 | .bk=>.ok (.nx,p.2) | .rt v=>.ok (.rt v,p.2)) D:=po
   refine .inr ⟨it.go i H' hlt (gr.trans nx.rep.sub),fun σ2 H2=>ds.length - (i+1)=ds.length - (i+1)/\i+1<=ds.length/\∃ F' ρ',Nx C own own σ F H ρ' σ2 F' H2/\Same F1 F'/\PoS C own own σ2 F' H2 (wz g fb (ds.drop (i+1)) ρ') D,fun σ2 H2 q=>⟨ds.length - (i+1),by omega,q⟩,fun x H2 y=>?_⟩
   obtain ⟨F2,c2,s2,is2⟩:=it.yld i F' H' x H2 ds[i] (by simp [hlt]) gr nx.rep.sub y
   cases q1:g ds[i] ρ' with
   | exc c=>rw [q1] at po; exact po.elim
   | bad=>rw [q1] at po; exact po.elim
   | ok ρ2=>
    rw [q1] at po
    refine ⟨F2,ρ',ds[i],nx.rep.grow c2 s2,is2,ρ2,q1,fun σ3 rp3 oa3 io3=>⟨F2,ρ2,rp3,?_⟩⟩
    have n3:Nx C own own σ' F' H' ρ2 σ3 F2 H2:=⟨rp3,c2.ofNo,fun b z=>.inl (oa3 b z),io3⟩
    have po3:=PoS.shift (show PoS C own own σ' F' H' ((fb ρ2).bind fun p=>match p.1 with | .nx=>wz g fb (ds.drop (i+1)) p.2 | .ct=>wz g fb (ds.drop (i+1)) p.2 | .bk=>.ok (.nx,p.2) | .rt v=>.ok (.rt v,p.2)) D from po) n3
    have up:∀ {ρ4 σ4 F4 H4},Nx { C with ol:=own } own own σ3 F2 H2 ρ4 σ4 F4 H4->Nx C own own σ3 F2 H2 ρ4 σ4 F4 H4:=fun z=>⟨z.rep,z.chg,z.oa,z.io⟩
    cases q2:fb ρ2 with
    | exc c=>rw [q2] at po3; exact po3
    | bad=>rw [q2] at po3; exact po3.elim
    | ok p=>
     rw [q2] at po3
     obtain ⟨fl,ρ4⟩:=p
     cases fl with
     | nx=>exact fun σ4 F4 H4 n4=>⟨rfl,hlt,F4,ρ4,(nx.then n3).then (up n4),(gr.trans c2.grow).trans n4.chg.grow,PoS.shift (show PoS C own own σ3 F2 H2 (wz g fb (ds.drop (i+1)) ρ4) D from po3) (up n4)⟩
     | ct=>exact fun σ4 F4 H4 n4=>⟨rfl,hlt,F4,ρ4,(nx.then n3).then (up n4),(gr.trans c2.grow).trans n4.chg.grow,PoS.shift (show PoS C own own σ3 F2 H2 (wz g fb (ds.drop (i+1)) ρ4) D from po3) (up n4)⟩
     | bk=>exact fun σ4 F4 H4 n4=>po3 σ4 F4 H4 (up n4)
     | rt d=>exact fun v σ4 F4 H4 s io c e mo=>po3 v σ4 F4 H4 s io c e mo
  ·have e:i=ds.length:=by omega
   subst e
   rw [List.drop_length] at po
   exact .inl ⟨it.stop _ H' (ax _) (gr.trans nx.rep.sub),po σ' F' H' (.refl nx.rep)⟩
noncomputable def jf (ft:Sl->Out (Bool×Sl)) (fb:Sl->Out (Fl×Sl)):Nat->Sl->Out (Fl×Sl)
 | 0,_=>.bad
 | n+1,ρ=>(ft ρ).bind fun q=>if q.1=true then (fb q.2).bind fun p=>match p.1 with
  | .nx=>jf ft fb n p.2
  | .ct=>jf ft fb n p.2
  | .bk=>.ok (.nx,p.2)
  | .rt v=>.ok (.rt v,p.2)
  else .ok (.nx,q.2)
theorem zn {t:Expr} {body:List Stmt} {fb:Sl->Out (Fl×Sl)} (n:Nat) (hp:PassesOwn (model X.prog X.w) X.A X.env X.xe) (ht:PT X t (tT C own ft)) (hb:PSs X body (tSt { C with ol:=own } own own fb)) :
  PS X (.While t body [] pos) (tSt C own own (jf ft fb n)):=by
 refine gm (Gf hp ht hb) fun D σ H ⟨F,ρ,rp,h⟩=>?_
 refine ⟨fun m σ' H'=>∃ F' ρ',Rep C.K own F' H' σ' ρ'/\PoS C own own σ' F' H' (jf ft fb m ρ') D,⟨n,F,ρ,rp,h⟩,?_⟩
 rintro m σ1 H1 ⟨F1,ρ1,rp1,po⟩
 refine ⟨F1,ρ1,rp1,?_⟩
 cases m with
 | zero=>exact po.elim
 | succ m=>
  have po:PoS C own own σ1 F1 H1 ((ft ρ1).bind fun q=>if q.1=true then (fb q.2).bind fun p=>match p.1 with | .nx=>jf ft fb m p.2 | .ct=>jf ft fb m p.2 | .bk=>.ok (.nx,p.2) | .rt v=>.ok (.rt v,p.2) else .ok (.nx,q.2)) D:=po
  refine PoS.bindT po fun F2 H2 k ρ2 rp2 c2 h2=>?_
  cases k with
  | false=>exact h2 σ1 F2 H2 (.refl rp2)
  | true=>
   refine ⟨fun σ3 H3=>∃ F' ρ',Rep C.K own F' H3 σ3 ρ'/\PoS C own own σ3 F' H3 (jf ft fb m ρ') D,fun σ3 H3 q=>⟨m,by omega,q⟩,F2,ρ2,rp2,?_⟩
   have h2:PoS C own own σ1 F2 H2 ((fb ρ2).bind fun p=>match p.1 with | .nx=>jf ft fb m p.2 | .ct=>jf ft fb m p.2 | .bk=>.ok (.nx,p.2) | .rt v=>.ok (.rt v,p.2)) D:=h2
   have up:∀ {ρ4 σ4 F4 H4},Nx { C with ol:=own } own own σ1 F2 H2 ρ4 σ4 F4 H4->Nx C own own σ1 F2 H2 ρ4 σ4 F4 H4:=fun z=>⟨z.rep,z.chg,z.oa,z.io⟩
   cases q2:fb ρ2 with
   | exc c=>rw [q2] at h2; exact h2
   | bad=>rw [q2] at h2; exact h2.elim
   | ok p=>
    rw [q2] at h2
    obtain ⟨fl,ρ4⟩:=p
    cases fl with
    | nx=>exact fun σ4 F4 H4 n4=>⟨F4,ρ4,n4.rep,PoS.shift (show PoS C own own σ1 F2 H2 (jf ft fb m ρ4) D from h2) (up n4)⟩
    | ct=>exact fun σ4 F4 H4 n4=>⟨F4,ρ4,n4.rep,PoS.shift (show PoS C own own σ1 F2 H2 (jf ft fb m ρ4) D from h2) (up n4)⟩
    | bk=>exact fun σ4 F4 H4 n4=>h2 σ4 F4 H4 (up n4)
    | rt d=>exact fun v σ4 F4 H4 s io c e mo=>h2 v σ4 F4 H4 s io c e mo
end
noncomputable def Jd (cells:List (Str×Addr)):List (Str×NameKind)->List (Str×Addr)->List (Str×Addr)
 | [],acc=>acc
 | (n,k)::r,acc=>if (k == .free)=true then Jd cells r ((n,(cells.lookup n).getD 0)::acc) else Jd cells r acc
variable {env:Env}
theorem wG:∀ (names:List (Str×NameKind)) (acc:List (Str×Addr)),(∀ x∈names,x.2=.free->∃ c,env.cells.lookup x.1=some c) ->
  (forIn names acc fun (x:Str×NameKind) (cs:List (Str×Addr))=>if (x.2 == bA)=true then (do let a <-cellOf env x.1; pure (cj ((x.1,a)::cs))) else pure (cj cs):Sem (List (Str×Addr)))=pure (Jd env.cells names acc)
 | [],acc,_=>rfl
 | (n,k)::r,acc,h=>by
  rw [List.forIn_cons]
  by_cases q:(k == bA)=true
  ·obtain ⟨c,hc⟩:=h (n,k) ah (by simpa using q)
   have e:cellOf env n=pure c:=by unfold cellOf; rw [hc]
   simp only [q,if_true,e]
   have ih:=wG r ((n,c)::acc) (fun x hx=>h x (aa _ hx))
   simp only [Jd,q,if_true,hc,Option.getD_some]
   exact ih
  ·simp only [q,if_false,Jd]
   exact wG r acc (fun x hx=>h x (aa _ hx))
variable {scope:Scope}
theorem gF (h:∀ x∈scope.names,x.2=.free->∃ c,env.cells.lookup x.1=some c):closureFor scope env=pure (Jd env.cells scope.names []):=by
 have:=wG scope.names [] h
 unfold closureFor
 simp only [bind_pure]
 exact this
variable {cells:List (Str×Addr)}
theorem uK:∀ {names:List (Str×NameKind)} {acc:List (Str×Addr)} {x:Str} {c:Addr},(∀ y∈names,y.2=.free->∃ c,cells.lookup y.1=some c)->(Jd cells names acc).lookup x=some c->cells.lookup x=some c\/acc.lookup x=some c
 | [],acc,x,c,_,h=>.inr h
 | (n,k)::r,acc,x,c,hf,h=>by
  unfold Jd at h
  by_cases q:(k == bA)=true
  ·rw [if_pos q] at h
   obtain ⟨c',hc⟩:=hf (n,k) ah (by simpa using q)
   rcases uK (fun y hy=>hf y (aa _ hy)) h with z | z
   ·exact .inl z
   ·rw [dQ] at z
    have hc:cells.lookup n=some c':=hc
    by_cases e:(x == n)=true
    ·rw [e] at z
     simp only [hc,Option.getD_some] at z
     have:x=n:=by simpa using e
     subst this
     rw [hc]; exact .inl z
    ·have e:(x == n)=false:=by simpa using e
     rw [e] at z
     exact .inr z
  ·rw [if_neg q] at h
   exact uK (fun y hy=>hf y (aa _ hy)) h
theorem Qa:∀ {names:List (Str×NameKind)} {acc:List (Str×Addr)} {x:Str},(∃ c,acc.lookup x=some c)->∃ c,(Jd cells names acc).lookup x=some c
 | [],_,_,h=>h
 | (n,k)::r,acc,x,h=>by
  unfold Jd
  by_cases q:(k == bA)=true
  ·rw [if_pos q]
   refine Qa ?_
   obtain ⟨c,hc⟩:=h
   rw [dQ]
   by_cases e:(x == n)=true
   ·rw [e]; exact ⟨_,rfl⟩
   ·have e:(x == n)=false:=by simpa using e
    rw [e]; exact ⟨c,hc⟩
  ·rw [if_neg q]; exact Qa h
theorem xR:∀ {names:List (Str×NameKind)} {acc:List (Str×Addr)} {x:Str},(x,bA)∈names->∃ c,(Jd cells names acc).lookup x=some c
 | (n,k)::r,acc,x,h=>by
  unfold Jd
  rcases ac.mp h with e | h
  ·cases e
   rw [if_pos (by rfl)]
   refine Qa ?_
   rw [dQ,beq_self_eq_true]
   exact ⟨_,rfl⟩
  ·by_cases q:(k == bA)=true
   ·rw [if_pos q]; exact xR h
   ·rw [if_neg q]; exact xR h
noncomputable def jN (X:Cx) (scope:Scope) (N:List Str) (fp:List Addr) (L:Addr) (s:Shared) (H:Hp):Cx:=
 { X with N:=N,s₀:=s,H₀:=H,env:=compEnvC scope (Jd X.env.cells scope.names []) L X.env,outer:=X.stack,stack:=X.stack,ex:=fp,fn:=fun _=>false,pn:=[],xe:=fun _ _=>False }
structure ScOk (X:Cx) (scope:Scope):Prop where
 kind:scope.kind=.function
 nocell:∀ y∈scope.names,y.2≠.cell
 names:∀ y∈scope.names,y.2=.local->scope.names.lookup y.1=some .local
 free:∀ y∈scope.names,y.2=.free->X.env.kindOf y.1=some .cell\/X.env.kindOf y.1=some .free
 frl:∀ y∈scope.names,y.2=.free->scope.names.lookup y.1=some .free
theorem ug {a:α}:∀ {l:List (Str×α)},l.lookup x=some a->(x,a)∈l
 | [],h=>by simp at h
 | (n,k)::r,h=>by
  rw [dQ] at h
  by_cases e:(x == n)=true
  ·rw [e] at h
   have h:some k=some a:=h
   cases h
   have:x=n:=by simpa using e
   subst this
   exact ah
  ·have e:(x == n)=false:=by simpa using e
   rw [e] at h
   exact aa _ (ug h)
theorem xu {k:NameKind} (h:(relabel scope env).names.lookup x=some k) (hk:k=.cell\/k=.free) (hn:∀ y∈scope.names,y.2≠.cell):(x,bA)∈scope.names:=by
 have m:=ug h
 obtain ⟨⟨n,k'⟩,hm,e⟩:=aj.mp m
 dsimp only at e
 by_cases q:(k' == bA&&env.scope.kind == .function&&env.kindOf n == some .cell)=true
 ·rw [if_pos q] at e
  cases e
  have:k'=.free:=by
   rw [aO,aO] at q
   simpa using q.1.1
  subst this
  exact hm
 ·rw [if_neg q] at e
  cases e
  rcases hk with rfl | rfl
  ·exact absurd rfl (hn _ hm)
  ·exact hm
theorem JD (h:Vis (relabel scope env) x):∃ k,(x,k)∈scope.names:=by
 have go:∀ {k:NameKind},(relabel scope env).names.lookup x=some k->∃ k,(x,k)∈scope.names:=fun {k} h=>by
  obtain ⟨⟨n,k'⟩,hm,e⟩:=aj.mp (ug h)
  dsimp only at e
  by_cases q:(k' == bA&&env.scope.kind == .function&&env.kindOf n == some .cell)=true
  ·rw [if_pos q] at e
   cases e
   exact ⟨_,hm⟩
  ·rw [if_neg q] at e
   cases e
   exact ⟨_,hm⟩
 rcases h with h | h | h <;> exact go h
variable {pins:List (Addr×Obj)} {σc:St} {s s':Shared} {fp:List Addr} {h':Heap}
section
theorem zo (I:Inv X pins σ H s) (S:ScOk X scope):∀ y∈scope.names,y.2=.free->∃ c,X.env.cells.lookup y.1=some c:=fun y hy e=>I.ok.has y.1 (S.free y hy e)
theorem GG (I:Inv X pins σ H s) (S:ScOk X scope) (hf:∀ b∈fp,KA X pins H b) (ho:∀ b∈fp,b < s.heap.objs.size) (hns:h'.Ns s.heap.objs.size (fun _=>none))
  (hk:∀ b o,s.heap.get? b=some o->h'.get? b=some o) (hl:σc.length=N.length)
  (hσ:∀ (j:Nat) (x:Str) (v:V),N[j]?=some x->σc[j]?=some (some v)->(∃ k,(x,k)∈scope.names)->∃ i:Nat,X.N[i]?=some x/\σ[i]?=some (some v)/\Vis X.env.scope x/\(x,bA)∈scope.names) {t:Nat} :
  Inv (jN X scope N fp s.heap.objs.size s H) [] σc H { s with heap:=h',toks:=t }:=by
 have hfc:=zo I S
 have cl:∀ x c,(Jd X.env.cells scope.names []).lookup x=some c->X.env.cells.lookup x=some c:=fun x c e=>(uK hfc e).resolve_right (by simp)
 have nfs:∀ b∈fp,b∉frs X.stack:=fun b hb z=>by
  obtain ⟨f0,f1,f2,_⟩:=hf b hb
  rcases ac.mp (I.stkSub b z) with e | e
  ·exact f1 e
  ·exact f2 e
 refine ⟨⟨I.ok.mod,?_,I.ok.glob,I.ok.blt,ax _,fun x y c h1 h2=>I.ok.inj x y c (cl x c h1) (cl y c h2),fun x hx=>?_,fun x c h=>absurd h (by show ¬(false=true); exact bf),I.ok.hd,I.ok.frames,.inl rfl,fun b hb=>⟨aE (ho b hb),fun x c e z=>?_⟩,I.bs,bc I.ok.bsz I.sz,fun b o e hb=>?_,nfs,I.stack,I.stkFree⟩,
  rfl,I.bare,Un.kept hk,⟨_,hns,fun j x v e1 e2 e3=>?_⟩,fun x c e=>?_,I.hok.fresh (ax _),fun x c e=>I.freeC x c (cl x c e),fun p hp=>absurd (show p∈([]:List (Addr×Obj)) from hp) (by simp),I.hok.kept hk,hl⟩
 ·exact S.kind
 ·refine xR ?_
  rcases hx with hx | hx
  ·exact xu hx (.inl rfl) S.nocell
  ·exact xu hx (.inr rfl) S.nocell
 ·exact (hf b hb).2.2.2.2.1 x c (cl x c e) z
 ·rcases (hf b hb).2.2.2.1 with z | z
  ·exact I.ok.noex b o e z
  ·have hlt:=ay e
   exact absurd (aI hlt (bc I.ok.bsz z)) (bO _)
 ·obtain ⟨i,g1,g2,g3,g4⟩:=hσ j x v e1 e2 (JD e3)
  obtain ⟨m,hn,hl'⟩:=I.loc
  obtain ⟨u,r,look⟩:=hl' i x v g1 g2 g3
  refine ⟨u,r,?_⟩
  obtain ⟨c0,hc0⟩:=xR (cells:=X.env.cells) (acc:=[]) g4
  have hce:=cl x c0 hc0
  have kd:(jN X scope N fp s.heap.objs.size s H).env.kindOf x=some .cell\/(jN X scope N fp s.heap.objs.size s H).env.kindOf x=some .free\/(jN X scope N fp s.heap.objs.size s H).env.kindOf x=some .local:=by
   rcases e3 with z | z | z
   ·exact .inr (.inr z)
   ·exact .inl z
   ·exact .inr (.inl z)
  rcases look with ⟨k,_⟩ | ⟨k,c,hc,z⟩
  ·rcases S.free _ g4 rfl with q | q
   ·have q:X.env.kindOf x=some .cell:=q
    rw [k] at q; cases q
   ·have q:X.env.kindOf x=some .free:=q
    rw [k] at q; cases q
  ·rw [hce] at hc
   cases hc
   obtain ⟨oc,ho1,ho2⟩:=z
   rcases kd with q | q | q
   ·exact .inr ⟨.inl q,c0,hc0,⟨oc,hk _ _ ho1,ho2⟩⟩
   ·exact .inr ⟨.inr q,c0,hc0,⟨oc,hk _ _ ho1,ho2⟩⟩
   ·refine absurd q ?_
    intro q
    have m2:=ug (show (relabel scope X.env).names.lookup x=some .local from q)
    obtain ⟨⟨n,k'⟩,hm,e⟩:=aj.mp m2
    dsimp only at e
    by_cases qq:(k' == bA&&X.env.scope.kind == .function&&X.env.kindOf n == some .cell)=true
    ·rw [if_pos qq] at e; cases e
    ·rw [if_neg qq] at e
     cases e
     have e1:=S.names _ hm rfl
     have e2:=S.frl _ g4 rfl
     have e1:scope.names.lookup x=some .local:=e1
     have e2:scope.names.lookup x=some .free:=e2
     rw [e1] at e2
     cases e2
 ·obtain ⟨v,oc,ho1,ho2⟩:=I.cell x c (cl x c e)
  exact ⟨v,oc,hk _ _ ho1,ho2⟩
theorem GH {H1:Hp} {s1:Shared} {L:Addr} (I:Inv X pins σ H s) (hf:∀ b∈fp,KA X pins H b) (J:Inv (jN X scope N fp s.heap.objs.size s H) [] σc H' s') (sb:bQ s.heap.objs.size s'.heap h'):Inv X pins σ H' { s' with heap:=h' }:=by
 have hL:H' s.heap.objs.size=none:=J.free
 have ne:∀ b o,s.heap.get? b=some o->b≠s.heap.objs.size:=fun b o e=>aE (ay e)
 have U:Un (frs X.stack) fp H H' s.heap s'.heap:=J.base
 refine I.call' (s':={ s' with heap:=h' }) (ch:=fp) J.os ⟨fun b o e n h1 h2=>(sb.2 b (ne b o e)).trans (U.keep b o e n h1 h2),fun b o e n h1 h2=>?_,U.free,fun b o e h2=>?_,U.tups,U.frzs,U.tbls⟩ (fun b u e=>?_) J.bare fun b hb=>?_
 ·obtain ⟨sl,q⟩:=U.slot b o e n h1 h2
  exact ⟨sl,(sb.2 b (ne b o e)).trans q⟩
 ·obtain ⟨o',q⟩:=U.there b o e h2
  exact ⟨o',(sb.2 b (ne b o e)).trans q⟩
 ·refine (J.hok b u e).stay (fun c w hc q=>(sb.2 c ?_).trans q) (fun _ q=>q) fun _ _ q=>q
  rintro rfl
  rcases hc with z | z
  ·rw [<-z,hL] at e; cases e
  ·rw [hL] at z; cases z
 ·obtain ⟨f0,f1,f2,f3,f4,f5⟩:=hf b hb
  exact ⟨f3,f1,f4,f5⟩
end
theorem Qb {prog:Program} {w:World} {A:Around} {R:Result->Shared->Prop} {s:Shared} {elt target iter:Expr} {ifs:List Expr} {scope:Scope} {pos:Pos} {it acc:Value} {env:Env} (I:Nat->Shared->Prop)
  (turn:∀ n s,I n s->wpAny (model prog w) A (pyNext it) (fun r s₁=>match r with
   | none=>R (.ok .next) s₁
   | some v=>wpAny (model prog w) A (letOwnedTupleGo target it v) (fun _ t₁=>wpAny (model prog w) A (assign target env v) (fun _ s₂=>
     wpAny (model prog w) A (forIn ifs true fun c r=>if r=true then do let ok <-isTrue c env (eval c env); pure (cj ok) else pure (cj r)) (fun ok s₃=>
      if ok=true then wpAny (model prog w) A (eval elt env) (fun x s₄=>
       wpAny (model prog w) A (call (.builtin "list.append") [acc,x]) (fun _ s₅=>∃ m,m < n/\I m s₅) (fun _ _=>False) s₄) (fun _ _=>False) s₃
      else ∃ m,m < n/\I m s₃) (fun _ _=>False) s₂) (fun _ _=>False) t₁) (fun _ _=>False) s₁) (fun _ _=>False) s)
  (n:Nat) (h:I n s):codeAny (model prog w) A (.compLoop (.ListComp elt [⟨target,iter,ifs,0⟩] scope pos) 0 it acc env) R s:=by
 have no:∀ {α:Type} {t:Sem α} {Q Q':α->Shared->Prop} {E':Value->Shared->Prop} {s:Shared},wpAny (model prog w) A t Q (fun _ _=>False) s->(∀ a s,Q a s->Q' a s)->wpAny (model prog w) A t Q' E' s:=fun h k=>wpAny_mono h k fun _ _ z=>z.elim
 refine codeAny_loop rfl I (fun n s hI=>?_) n h
 show wpAny _ A ((compTurn (.ListComp elt [⟨target,iter,ifs,0⟩] scope pos) 0 it acc env).onRaise (fun x=>do noteFrame x env; theTreesLotGoes x)) _ _ s
 refine wpAny_noted ?_
 rw [compTurn_list]
 refine wpAny_bind (wpAny_standAt (wpAny_bind (no (turn n s hI) fun r s₁ h₁=>?_)))
 cases r with
 | none=>exact wpAny_pure h₁
 | some v=>
  refine wpAny_bind (no h₁ fun _ t₁ k₁=>wpAny_bind (no k₁ fun _ s₂ h₂=>wpAny_bind (no h₂ fun ok s₃ h₃=>?_)))
  cases ok with
  | false=>exact wpAny_pure ⟨rfl,h₃⟩
  | true=>exact wpAny_bind (wpAny_bind (no h₃ fun x s₄ h₄=>wpAny_bind (no h₄ fun _ s₅ h₅=>wpAny_pure (wpAny_pure ⟨rfl,h₅⟩))))
structure PTs (Y:Cx) (ifs:List Expr) (t:TT):Prop where
 run:∀ (pins:List (Addr×Obj)) (s:Shared) (σ:St) (H:Hp) (Q:Bool->Hp->Prop),Inv Y pins σ H s->t σ H Q ->
  wpAny (model Y.prog Y.w) Y.A (forIn ifs true fun c r=>if r=true then do let ok <-isTrue c Y.env (eval c Y.env); pure (cj ok) else pure (cj r)) (TP Y pins σ Q) Y.xe s
instance {Y:Cx} {ifs:List Expr} {t:TT}:CoeFun (PTs Y ifs t) (fun _=>∀ (pins:List (Addr×Obj)) (s:Shared) (σ:St) (H:Hp) (Q:Bool->Hp->Prop),Inv Y pins σ H s->t σ H Q ->
  wpAny (model Y.prog Y.w) Y.A (forIn ifs true fun c r=>if r=true then do let ok <-isTrue c Y.env (eval c Y.env); pure (cj ok) else pure (cj r)) (TP Y pins σ Q) Y.xe s):=⟨fun h=>h.run⟩
variable {Y:Cx}
theorem qcl:PTs Y [] (fun _ H Q=>Q true H):=⟨fun _ _ _ H _ I h=>wpAny_tests_nil ⟨H,I,h⟩⟩
theorem zp {t:TT} (h:PT Y c t):PTs Y [c] t:=⟨fun pins s σ H Q I q=>wpAny_tests_one (h pins s σ H Q I q)⟩
variable {ifs:List Expr} {te:TE} {E:Value->Shared->Prop}
section
variable {it:Addr} {tn:Nat->Heap->Prop} {J:It} {elt:Expr} {g:TG} {tt:TT}
theorem GI (I:Inv X pins σ H s) (hcalm:X.calm=true) (S:ScOk X scope) (T:Turn X.prog X.w X.K tg J fp it tn) (st0:tn 0 s.heap) (hf:∀ b∈fp,KA X pins H b)
  (hg:∀ fp L s' H',PG (jN X scope N fp L s' H') tg g) (ht:∀ fp L s' H',PTs (jN X scope N fp L s' H') ifs tt) (he:∀ fp L s' H',PE (jN X scope N fp L s' H') elt te) (hl:σc.length=N.length)
  (hσ:∀ (j:Nat) (x:Str) (v:V),N[j]?=some x->σc[j]?=some (some v)->(∃ k,(x,k)∈scope.names)->∃ i:Nat,X.N[i]?=some x/\σ[i]?=some (some v)/\Vis X.env.scope x/\(x,bA)∈scope.names)
  (W:Addr->Nat->Nat->St->Hp->Prop) (Fin:Addr->Hp->Prop) (w0:∀ p,H p=none->∃ m,W p 0 m σc (upd H p (.lst [])))
  (turn:∀ p i m σ1 H1,W p i m σ1 H1->(J.stop i H1/\Fin p H1)\/(J.go i H1/\∀ x H2,J.yld i H1 x H2->g x σ1 H2 fun σ2 H3=>tt σ2 H3 fun b H4=>if b=true then te σ2 H4 fun y H5=>∃ xs,H5 p=some (.lst xs)/\xs.length < sizeLine/\∃ m',m' < m/\W p (i+1) m' σ2 (upd H5 p (.lst (xs++[y]))) else ∃ m',m' < m/\W p (i+1) m' σ2 H4))
  (RR:Value->Addr->Result->Shared->Prop)
  (hRR:∀ p L H' s',Fin p H'->(∃ m,s'.heap.Ns L m)->KA X pins H' L->(∀ h',bQ L s'.heap h'->Inv X pins σ H' { s' with heap:=h' })->RR (.ref p) L (.ok .next) s') :
  wpAny (model X.prog X.w) X.A (newList []) (fun acc s₃=>wpAny (model X.prog X.w) X.A (newFunctionEnv scope X.env.globals (Jd X.env.cells scope.names []) [] X.env.qual none .none (some X.env)) (fun cenv s₄=>
   codeAny (model X.prog X.w) X.A (.compStart (.ListComp elt [⟨tg,iter,ifs,0⟩] scope pos) 0 (.ref it) acc { cenv with scope:=relabel scope X.env }) (RR acc cenv.locals) s₄) E s₃) E s:=by
 have hfo:∀ b∈fp,b < s.heap.objs.size:=fun b hb=>let ⟨o,e,_⟩:=T.obj 0 _ st0 b hb; ay e
 have hfresh:=I.fresh
 have I3:Inv X pins σ (upd H s.heap.objs.size (.lst [])) { s with heap:=s.heap.push { cls:=.type "list",data:=.seq ([]:List Value).toArray } }:=I.lnew (t':=s.toks) (ys:=[]) (its:=[]) .nil (bB _)
 have hf3:∀ b∈fp,KA X pins (upd H s.heap.objs.size (.lst [])) b:=fun b hb=>⟨by rw [qx (aE (hfo b hb))]; exact (hf b hb).1,(hf b hb).2⟩
 have st3:tn 0 (s.heap.push { cls:=.type "list",data:=.seq ([]:List Value).toArray }):=T.keep 0 _ _ st0 fun b hb o e=>ae _ e
 refine wpAny_newObj_type (wpAny_newFunctionEnv S.nocell (fun y hy=>by simp at hy) (fun h₁ hns₁ hsb₁=>?_) S.kind)
 dsimp only at hns₁ hsb₁ ⊢
 generalize hs3:({ s with heap:=s.heap.push { cls:=.type "list",data:=.seq ([]:List Value).toArray } }:Shared)=s3 at I3
 have e3:s3.heap=s.heap.push { cls:=.type "list",data:=.seq ([]:List Value).toArray }:=by rw [<-hs3]
 rw [<-e3] at hns₁ hsb₁ st3 ⊢
 have keep:∀ b o,s3.heap.get? b=some o->h₁.get? b=some o:=fun b o e=>(hsb₁.2 b (aE (ay e))).trans (ae _ e)
 have ho3:∀ b∈fp,b < s3.heap.objs.size:=fun b hb=>by rw [e3,bP]; exact eI (hfo b hb)
 have J1:Inv (jN X scope N fp s3.heap.objs.size s3 (upd H s.heap.objs.size (.lst []))) [] σc (upd H s.heap.objs.size (.lst [])) { s3 with heap:=h₁,toks:=s.toks+0 }:=
  GG I3 S hf3 ho3 (by simpa using hns₁) keep hl hσ
 have st4:tn 0 h₁:=T.keep 0 _ _ st3 fun b hb o e=>keep b o e
 have loop:∀ s4:Shared,s4={ s3 with heap:=h₁,toks:=s.toks+0 }->codeAny (model X.prog X.w) X.A (.compLoop (.ListComp elt [⟨tg,iter,ifs,0⟩] scope pos) 0 (.ref it) (.ref s.heap.objs.size) (compEnvC scope (Jd X.env.cells scope.names []) s3.heap.objs.size X.env)) (RR (.ref s.heap.objs.size) s3.heap.objs.size) s4:=by
  rintro s4 rfl
  generalize hY:jN X scope N fp s3.heap.objs.size s3 (upd H s.heap.objs.size (.lst []))=Y at J1
  have eP:Y.prog=X.prog:=by rw [<-hY]; rfl
  have ew:Y.w=X.w:=by rw [<-hY]; rfl
  have eA:Y.A=X.A:=by rw [<-hY]; rfl
  have ee:Y.env=compEnvC scope (Jd X.env.cells scope.names []) s3.heap.objs.size X.env:=by rw [<-hY]; rfl
  have eK:Y.K=X.K:=by rw [<-hY]; rfl
  have ec:Y.calm=true:=by rw [<-hY]; exact hcalm
  have ex:Y.xe=fun _ _=>False:=by rw [<-hY]; rfl
  have hgY:PG Y tg g:=by rw [<-hY]; exact hg fp _ _ _
  have htY:PTs Y ifs tt:=by rw [<-hY]; exact ht fp _ _ _
  have heY:PE Y elt te:=by rw [<-hY]; exact he fp _ _ _
  have stat:∀ {H1:Hp},(∀ b∈fp,H1 b=none)->∀ b∈fp,KA Y [] H1 b:=fun hn b hb=>by
   have q:=J1.ok.exf b (by rw [<-hY]; exact hb)
   refine ⟨hn b hb,q.1,J1.ok.exfs b (by rw [<-hY]; exact hb),.inl (by rw [<-hY]; exact hb),q.2,fun p hp=>?_⟩
   rw [<-hY] at hp
   exact absurd (show p∈([]:List (Addr×Obj)) from hp) (by simp)
  obtain ⟨m0,hm0⟩:=w0 s.heap.objs.size hfresh
  refine Qb (fun n s'=>∃ i σ1 H1,Inv Y [] σ1 H1 s'/\tn i s'.heap/\(∀ b∈fp,H1 b=none)/\W s.heap.objs.size i n σ1 H1) ?_ m0 ⟨0,σc,_,J1,st4,fun b hb=>(hf3 b hb).1,hm0⟩
  rintro n s5 ⟨i,σ1,H1,J5,st5,fr5,w5⟩
  rw [<-eP,<-ew,<-eA,<-ee]
  have TY:Turn Y.prog Y.w Y.K tg J fp it tn:=by rw [eP,ew,eK]; exact T
  rcases turn _ i n σ1 H1 w5 with ⟨stop,fin⟩ | ⟨go,step⟩
  ·refine thn (TY.done Y rfl rfl rfl ec i [] s5 σ1 H1 _ J5 (stat fr5) st5 stop) fun r s6 ⟨hr,J6⟩=>?_
   subst hr
   have J6':Inv (jN X scope N fp s3.heap.objs.size s3 (upd H s.heap.objs.size (.lst []))) [] σ1 H1 s6:=by rw [hY]; exact J6
   exact hRR _ _ H1 s6 fin (let ⟨m,hn,_⟩:=J6'.loc; ⟨m,hn⟩) (I3.fpOk (ax _) J6'.free) fun h' sb=>GH (s1:=s6) (H1:=H1) (L:=0) I3 hf3 J6' sb
  ·refine thn (TY.item Y rfl rfl rfl ec i [] s5 σ1 H1 _ J5 (stat fr5) st5 go) fun r s6 ⟨u,hr,h6⟩=>?_
   subst hr
   refine thn h6 fun _ s7 ⟨x,H7,J7,r7,y7,st7,fr7⟩=>?_
   have J7':=J7.pinned (stat fr7) (TY.obj _ _ st7)
   have back:∀ {σ9:St} {H9:Hp} {s9:Shared},Inv Y ([]++Ji fp s7.heap) σ9 H9 s9->(∃ m',m' < n/\W s.heap.objs.size (i+1) m' σ9 H9)->∃ m,m < n/\∃ i σ1 H1,Inv Y [] σ1 H1 s9/\tn i s9.heap/\(∀ b∈fp,H1 b=none)/\W s.heap.objs.size i m σ1 H1:=fun {σ9 H9 s9} J9 ⟨m',hm,w9⟩=>by
    refine ⟨m',hm,i+1,σ9,H9,J9.unpinned,TY.keep _ _ _ st7 fun b hb o e=>(J9.pin (b,o) (aM _ (aM _ (ub hb e)))).1,fun b hb=>?_,w9⟩
    obtain ⟨o,e,d⟩:=TY.obj _ _ st7 b hb
    exact (J9.pin (b,o) (aM _ (aM _ (ub hb e)))).2.1
   rw [<-ex]
   refine thn (hgY _ s7 σ1 H7 x u _ J7' r7 (step x H7 y7)) fun _ s8 ⟨σ8,H8,J8,q8⟩=>?_
   refine thn (htY _ s8 σ8 H8 _ J8 q8) fun ok s9 ⟨H9,J9,q9⟩=>?_
   cases ok with
   | false=>exact back J9 q9
   | true=>
    refine thn (heY _ s9 σ8 H9 _ J9 q9) fun v s10 ⟨y,H10,J10,r10,xs,hx,hlen,q10⟩=>?_
    exact thn (Jo _ s10 σ8 H10 (.ref s.heap.objs.size) [y] (.ref s.heap.objs.size) [v] (fun _ H11=>∃ m',m' < n/\W s.heap.objs.size (i+1) m' σ8 H11) J10 rfl (.cons r10 .nil) ⟨_,xs,y,rfl,rfl,hx,hlen,q10⟩) fun _ s11 ⟨_,H11,J11,_,q11⟩=>back J11 q11
 have e4:({ heap:=h₁,gens:=s.gens,drawn:=s.drawn,toks:=s.toks+([]:List (Str×Value)).length,os:=s.os }:Shared)={ s3 with heap:=h₁,toks:=s.toks+0 }:=by rw [<-hs3]; rfl
 exact codeAny_compStart_list (loop _ e4) (T.self _ 0 _ _ _ st4 (loop _ e4))
end
noncomputable def kO (nt:Nat) (cap:List Nat) (ρ:List (Option α)):List (Option α):=cY nt none++cap.map fun k=>(ρ[k]?).getD none
noncomputable def uL (own:List Nat):Nat->List Nat->List Nat
 | _,[]=>[]
 | n,k::cap=>if k∈own then n::uL own (n+1) cap else uL own (n+1) cap
noncomputable def ioC (nt len:Nat):List Nat:=(aF len).map (nt + ·)
noncomputable def jx (own:List Nat) (ρc:Sl):Nat->List Nat->Sl->Sl
 | _,[],ρ=>ρ
 | n,k::cap,ρ=>if k∈own then jx own ρc (n+1) cap (ρ.set k ((ρc[n]?).getD none)) else jx own ρc (n+1) cap ρ
variable {nt:Nat} {cap:List Nat}
theorem get_cap {ρ:List (Option α)} {d:α}:(kO nt cap ρ)[i]?=some (some d)↔∃ j k,i=nt+j/\cap[j]?=some k/\ρ[k]?=some (some d):=by
 unfold kO
 constructor
 ·intro h
  by_cases hi:i < nt
  ·rw [bJ (by simpa using hi),dq] at h
   split at h <;> cases h
  ·rw [bF (by simpa using hi),dN,aG] at h
   cases q:cap[i - nt]? with
   | none=>rw [q] at h; cases h
   | some k=>
    rw [q] at h
    have h:(ρ[k]?).getD none=some d:=aT.inj h
    refine ⟨i - nt,k,by omega,q,?_⟩
    cases q2:ρ[k]? with
    | none=>rw [q2] at h; cases h
    | some o=>rw [q2] at h; exact congrArg some h
 ·rintro ⟨j,k,rfl,h1,h2⟩
  rw [bF (by simp),dN,aG,show nt+j - nt=j by omega,h1]
  simp [h2]
theorem mem_ownC {own:List Nat}:∀ {n:Nat} {cap:List Nat} {i:Nat},i∈uL own n cap↔∃ j k,i=n+j/\cap[j]?=some k/\k∈own
 | n,[],i=>by simp [uL]
 | n,k::cap,i=>by
  have ih:=@mem_ownC own (n+1) cap i
  unfold uL
  by_cases hk:k∈own
  ·rw [if_pos hk,ac,ih]
   constructor
   ·rintro (rfl | ⟨j,k',e,h1,h2⟩)
    ·exact ⟨0,k,rfl,rfl,hk⟩
    ·exact ⟨j+1,k',by omega,by simpa using h1,h2⟩
   ·rintro ⟨j,k',e,h1,h2⟩
    cases j with
    | zero=>exact .inl (by omega)
    | succ j=>exact .inr ⟨j,k',by omega,by simpa using h1,h2⟩
  ·rw [if_neg hk,ih]
   constructor
   ·rintro ⟨j,k',e,h1,h2⟩
    exact ⟨j+1,k',by omega,by simpa using h1,h2⟩
   ·rintro ⟨j,k',e,h1,h2⟩
    cases j with
    | zero=>simp at h1; subst h1; exact absurd h2 hk
    | succ j=>exact ⟨j,k',by omega,by simpa using h1,h2⟩
theorem mem_ioC {len:Nat}:i∈ioC nt len↔∃ j,j < len/\i=nt+j:=by
 unfold ioC
 rw [aj]
 constructor
 ·rintro ⟨j,h1,h2⟩; exact ⟨j,aL.mp h1,h2.symm⟩
 ·rintro ⟨j,h1,h2⟩; exact ⟨j,aL.mpr h1,h2.symm⟩
variable {ρc:Sl}
theorem yR:∀ {n:Nat} {cap:List Nat} {ρ:Sl},(jx own ρc n cap ρ).length=ρ.length
 | _,[],_=>rfl
 | n,k::cap,ρ=>by
  unfold jx
  by_cases hk:k∈own
  ·rw [if_pos hk,yR,cy]
  ·rw [if_neg hk,yR]
theorem kL:∀ {n:Nat} {cap:List Nat} {ρ:Sl} {i:Nat},¬(i∈cap/\i∈own)->(jx own ρc n cap ρ)[i]?=ρ[i]?
 | _,[],_,_,_=>rfl
 | n,k::cap,ρ,i,h=>by
  unfold jx
  have h':¬(i∈cap/\i∈own):=fun z=>h ⟨aa _ z.1,z.2⟩
  by_cases hk:k∈own
  ·rw [if_pos hk,kL h',aw (fun e=>h ⟨ac.mpr (.inl e.symm),by rw [<-e]; exact hk⟩)]
  ·rw [if_neg hk,kL h']
theorem yj:∀ {n:Nat} {cap:List Nat} {ρ:Sl} {j k:Nat} {d:D},cap.Nodup->cap[j]?=some k->k∈own->k < ρ.length->ρc[n+j]?=some (some d)->(jx own ρc n cap ρ)[k]?=some (some d)
 | _,[],_,_,_,_,_,h,_,_,_=>by simp at h
 | n,k0::cap,ρ,0,k,d,nd,h,hk,hl,e=>by
  simp at h; subst h
  obtain ⟨n1,n2⟩:=aK.mp nd
  unfold jx
  rw [if_pos hk,kL (fun z=>n1 z.1),aH hl]
  have e:ρc[n]?=some (some d):=e
  rw [e]; rfl
 | n,k0::cap,ρ,j+1,k,d,nd,h,hk,hl,e=>by
  obtain ⟨n1,n2⟩:=aK.mp nd
  have h:cap[j]?=some k:=by simpa using h
  have e:ρc[n+1+j]?=some (some d):=by rw [show n+1+j=n+(j+1) by omega]; exact e
  unfold jx
  by_cases hk0:k0∈own
  ·rw [if_pos hk0]; exact yj n2 h hk (by rw [cy]; exact hl) e
  ·rw [if_neg hk0]; exact yj n2 h hk hl e
section
theorem KW {ρ:List (Option α)}:(kO nt cap ρ).length=nt+cap.length:=by simp [kO]
theorem YY {l:List Nat} (h:l.Nodup) {j k:Nat} (a:l[i]?=some k) (b:l[j]?=some k):i=j:=by
 obtain ⟨h1,e1⟩:=aA.mp a
 obtain ⟨h2,e2⟩:=aA.mp b
 exact (eS h).mp (e1.trans e2.symm)
theorem qcm (rp:Rep K own F H σ ρ) (nd:cap.Nodup):Rep K (uL own nt cap) F H (kO nt cap σ) (kO nt cap ρ) where
 sub:=rp.sub
 len:=by rw [KW,KW]
 val:=fun i d hi e=>by
  obtain ⟨j,k,rfl,h1,h2⟩:=get_cap.mp e
  obtain ⟨v,g1,g2⟩:=rp.val k d (fun z=>hi (mem_ownC.mpr ⟨j,k,rfl,h1,z⟩)) h2
  exact ⟨v,get_cap.mpr ⟨j,k,rfl,h1,g1⟩,g2⟩
 ow:=fun i d hi e=>by
  obtain ⟨j,k,rfl,h1,h2⟩:=get_cap.mp e
  obtain ⟨j',k',e',h1',h2'⟩:=mem_ownC.mp hi
  have:j=j':=by omega
  subst this
  rw [h1] at h1'; cases h1'
  obtain ⟨a,g1,g2⟩:=rp.ow k d h2' h2
  exact ⟨a,get_cap.mpr ⟨j,k,rfl,h1,g1⟩,g2⟩
 opn:=fun i hi=>by
  obtain ⟨j,k,rfl,h1,h2⟩:=mem_ownC.mp hi
  obtain ⟨d,e⟩:=rp.opn k h2
  exact ⟨d,get_cap.mpr ⟨j,k,rfl,h1,e⟩⟩
 dis:=fun i i' a hi hi' e e'=>by
  obtain ⟨j,k,rfl,h1,h2⟩:=mem_ownC.mp hi
  obtain ⟨j',k',rfl,h1',h2'⟩:=mem_ownC.mp hi'
  obtain ⟨x,y,q1,q2,q3⟩:=get_cap.mp e
  obtain ⟨x',y',q1',q2',q3'⟩:=get_cap.mp e'
  have:x=j:=by omega
  subst this
  have:x'=j':=by omega
  subst this
  rw [h1] at q2; cases q2
  rw [h1'] at q2'; cases q2'
  have e:=rp.dis k k' a h2 h2' q3 q3'
  subst e
  rw [YY nd h1 h1']
theorem YZ (hio:∀ i∈ioC nt cap.length,σ1[i]?=(kO nt cap σ)[i]?) (h:OA (uL own nt cap) σ1 b):OA own σ b:=by
 obtain ⟨i,hi,e⟩:=h
 obtain ⟨j,k,rfl,h1,h2⟩:=mem_ownC.mp hi
 rw [hio _ (mem_ioC.mpr ⟨j,(aA.mp h1).1,rfl⟩)] at e
 obtain ⟨x,y,q1,q2,q3⟩:=get_cap.mp e
 have:x=j:=by omega
 subst this
 rw [h1] at q2; cases q2
 exact ⟨k,h2,q3⟩
theorem Xa {F':Hp} (rp:Rep K own F H σ ρ) (nd:cap.Nodup) (rp1:Rep K (uL own nt cap) F' H' σ1 ρ1) (hio:∀ i∈ioC nt cap.length,σ1[i]?=(kO nt cap σ)[i]?) (c:Chg (OA (uL own nt cap) σ1) F H F' H'):Rep K own F' H' σ (jx own ρ1 nt cap ρ) where
 sub:=rp1.sub
 len:=by rw [yR]; exact rp.len
 val:=fun i d hi e=>by
  rw [kL (fun z=>hi z.2)] at e
  obtain ⟨v,h1,h2⟩:=rp.val i d hi e
  exact ⟨v,h1,h2.mono c.grow⟩
 ow:=fun i d hi e=>by
  by_cases q:i∈cap
  ·obtain ⟨j,hj⟩:=List.getElem?_of_mem q
   have hm:nt+j∈uL own nt cap:=mem_ownC.mpr ⟨j,i,rfl,hj,hi⟩
   obtain ⟨d',hd'⟩:=rp1.opn _ hm
   obtain ⟨d0,hd0⟩:=rp.opn i hi
   rw [yj nd hj hi (aA.mp hd0).1 hd'] at e
   cases e
   obtain ⟨a,h1,h2⟩:=rp1.ow _ _ hm hd'
   rw [hio _ (mem_ioC.mpr ⟨j,(aA.mp hj).1,rfl⟩)] at h1
   obtain ⟨x,y,q1,q2,q3⟩:=get_cap.mp h1
   have:x=j:=by omega
   subst this
   rw [hj] at q2; cases q2
   exact ⟨a,q3,h2⟩
  ·rw [kL (fun z=>q z.1)] at e
   obtain ⟨a,h1,h2,h3⟩:=rp.ow i d hi e
   have na:¬OA (uL own nt cap) σ1 a:=fun z=>by
    obtain ⟨i',hi',e'⟩:=z
    obtain ⟨j,k,rfl,g1,g2⟩:=mem_ownC.mp hi'
    rw [hio _ (mem_ioC.mpr ⟨j,(aA.mp g1).1,rfl⟩)] at e'
    obtain ⟨x,y,q1,q2,q3⟩:=get_cap.mp e'
    have:x=j:=by omega
    subst this
    rw [g1] at q2; cases q2
    have e:=rp.dis i k a hi g2 h1 q3
    subst e
    exact q (aU g1)
   refine ⟨a,h1,?_,h3.grow c.grow fun o z=>c.keep a o z na⟩
   cases qq:F' a with
   | none=>rfl
   | some u=>
    rcases c.new a (by rw [qq]; simp) with z | z | z
    ·exact absurd h2 z
    ·exact absurd z h3.there
    ·exact absurd z na
 opn:=fun i hi=>by
  by_cases q:i∈cap
  ·obtain ⟨j,hj⟩:=List.getElem?_of_mem q
   have hm:nt+j∈uL own nt cap:=mem_ownC.mpr ⟨j,i,rfl,hj,hi⟩
   obtain ⟨d',hd'⟩:=rp1.opn _ hm
   obtain ⟨d0,hd0⟩:=rp.opn i hi
   exact ⟨d',yj nd hj hi (aA.mp hd0).1 hd'⟩
  ·rw [kL (fun z=>q z.1)]
   exact rp.opn i hi
 dis:=rp.dis
end
noncomputable def yS (g:D->Sl->Out Sl) (ft:Sl->Out (Bool×Sl)) (fe:Sl->Out (D×Sl)) (d:D) (ρ:Sl):Out (Option D×Sl):=
 (g d ρ).plain.bind fun ρ1=>(ft ρ1).plain.bind fun q=>if q.1=true then (fe q.2).plain.bind fun r=>.ok (some r.1,r.2) else .ok (none,q.2)
noncomputable def jt (g:D->Sl->Out Sl) (ft:Sl->Out (Bool×Sl)) (fe:Sl->Out (D×Sl)):List D->Sl->Out (List D×Sl)
 | [],ρ=>.ok ([],ρ)
 | d::ds,ρ=>(yS g ft fe d ρ).bind fun p=>(jt g ft fe ds p.2).bind fun q=>.ok (p.1.toList++q.1,q.2)
noncomputable def ju (own:List Nat) (nt:Nat) (cap:List Nat) (fi:Sl->Out (List D×Sl)) (g:D->Sl->Out Sl) (ft:Sl->Out (Bool×Sl)) (fe:Sl->Out (D×Sl)):Sl->Out (D×Sl):=fun ρ=>(fi ρ).bind fun p=>
 if p.1.length<=sizeLine then (jt g ft fe p.1 (kO nt cap p.2)).bind fun q=>.ok (.lst q.1,jx own q.2 nt cap p.2) else .bad
noncomputable def ctC (C:Ct) (nt len:Nat):Ct:=⟨C.K,C.cv,fun _ _ _=>False,ioC nt len,.sh,[],[],fun _ h=>absurd h (by simp)⟩
noncomputable def ftT:Sl->Out (Bool×Sl):=fun ρ=>.ok (true,ρ)
theorem jg:PTs Y [] (tT C own ftT):=⟨fun pins s σ H Q I ⟨F,ρ,rp,h⟩=>qcl pins s σ H Q I (h F H rp .refl)⟩
structure CW (C:Ct) (own:List Nat) (nt:Nat) (cap:List Nat) (σ:St) (F H F0:Hp) (g:D->Sl->Out Sl) (ft:Sl->Out (Bool×Sl)) (fe:Sl->Out (D×Sl)) (ds ys:List D) (ρe:Sl) (p:Addr) (i:Nat) (σ1:St) (H1:Hp) (F1:Hp) (ρi:Sl) (accD:List D) (xs:List V) (rest:List D):Prop where
 rep:Rep C.K (uL own nt cap) F1 H1 σ1 ρi
 io:∀ i∈ioC nt cap.length,σ1[i]?=(kO nt cap σ)[i]?
 chg:Chg (OA (uL own nt cap) σ1) F H F1 H1
 gr:Same F0 F1
 at_:H1 p=some (.lst xs)
 nF:F1 p=none
 is:IsL C.K F1 xs accD
 le:accD.length<=i
 run:jt g ft fe (ds.drop i) ρi=.ok (rest,ρe)
 all:accD++rest=ys
theorem UF {rest:List D} {ρe:Sl} (h:jt g ft fe (d::ds) ρ=.ok (rest,ρe)) :
  ∃ ρ1,g d ρ=.ok ρ1/\∃ b ρ2,ft ρ1=.ok (b,ρ2)/\((b=true/\∃ y ρ3 r,fe ρ2=.ok (y,ρ3)/\jt g ft fe ds ρ3=.ok (r,ρe)/\rest=y::r)\/(b=false/\jt g ft fe ds ρ2=.ok (rest,ρe))):=by
 unfold jt yS at h
 cases q1:g d ρ with
 | exc c=>rw [q1] at h; cases h
 | bad=>rw [q1] at h; cases h
 | ok ρ1=>
  rw [q1] at h
  refine ⟨ρ1,rfl,?_⟩
  simp only [Out.plain,Out.ok_bind] at h
  cases q2:ft ρ1 with
  | exc c=>rw [q2] at h; cases h
  | bad=>rw [q2] at h; cases h
  | ok p=>
   obtain ⟨b,ρ2⟩:=p
   rw [q2] at h
   refine ⟨b,ρ2,rfl,?_⟩
   simp only [Out.plain,Out.ok_bind] at h
   cases b with
   | true=>
    refine .inl ⟨rfl,?_⟩
    simp only [if_true] at h
    cases q3:fe ρ2 with
    | exc c=>rw [q3] at h; cases h
    | bad=>rw [q3] at h; cases h
    | ok p=>
     obtain ⟨y,ρ3⟩:=p
     rw [q3] at h
     simp only [Out.plain,Out.ok_bind] at h
     cases q4:jt g ft fe ds ρ3 with
     | exc c=>rw [q4] at h; cases h
     | bad=>rw [q4] at h; cases h
     | ok p=>
      obtain ⟨r,ρ4⟩:=p
      rw [q4] at h
      simp only [Out.ok_bind] at h
      cases h
      exact ⟨y,ρ3,r,rfl,q4,rfl⟩
   | false=>
    refine .inr ⟨rfl,?_⟩
    simp only [ez,if_false,Out.ok_bind] at h
    cases q4:jt g ft fe ds ρ2 with
    | exc c=>rw [q4] at h; cases h
    | bad=>rw [q4] at h; cases h
    | ok p=>
     obtain ⟨r,ρ4⟩:=p
     rw [q4] at h
     simp only [Out.ok_bind] at h
     cases h
     rfl
section
variable {elt:Expr} {me:Mo}
structure CapOk (X:Cx) (scope:Scope) (N:List Str) (nt:Nat) (cap:List Nat):Prop where
 nd:cap.Nodup
 len:N.length=nt+cap.length
 at_:∀ (j k:Nat),cap[j]?=some k->∃ x,N[nt+j]?=some x/\X.N[k]?=some x/\((Vis X.env.scope x/\(x,bA)∈scope.names)\/∀ k',(x,k')∉scope.names)
theorem JE {F:Hp} {ρ1:Sl} {it:Addr} {fp:List Addr} {tn:Nat->Heap->Prop} {J:It} {E:Value->Shared->Prop} {ds ys:List D} {ρe:Sl} (I:Inv X pins σ H s) (hcalm:X.calm=true) (S:ScOk X scope) (CO:CapOk X scope N nt cap)
  (T:Turn X.prog X.w X.K tg J fp it tn) (st0:tn 0 s.heap) (hf:∀ b∈fp,KA X pins H b) (rp:Rep C.K own F H σ ρ1) (itI:ItIs C.K F J ds) (hz:ds.length<=sizeLine)
  (hg:∀ fp L s' H',PG (jN X scope N fp L s' H') tg (tGd (ctC C nt cap.length) (uL own nt cap) g)) (ht:∀ fp L s' H',PTs (jN X scope N fp L s' H') ifs (tT (ctC C nt cap.length) (uL own nt cap) ft))
  (he:∀ fp L s' H',PE (jN X scope N fp L s' H') elt (tE (ctC C nt cap.length) (uL own nt cap) me fe)) (hme:me≠.any)
  (hrun:jt g ft fe ds (kO nt cap ρ1)=.ok (ys,ρe)) (RR:Value->Addr->Result->Shared->Prop)
  (hRR:∀ p L s' F' H',H p=none->Rep C.K own F' H' σ (jx own ρe nt cap ρ1)->Chg (OA own σ) F H F' H'->F' p=none->OwnIs C.K F' H' p (.lst ys)->(∃ m,s'.heap.Ns L m)->KA X pins H' L->(∀ h',bQ L s'.heap h'->Inv X pins σ H' { s' with heap:=h' })->RR (.ref p) L (.ok .next) s') :
  wpAny (model X.prog X.w) X.A (newList []) (fun acc s₃=>wpAny (model X.prog X.w) X.A (newFunctionEnv scope X.env.globals (Jd X.env.cells scope.names []) [] X.env.qual none .none (some X.env)) (fun cenv s₄=>
   codeAny (model X.prog X.w) X.A (.compStart (.ListComp elt [⟨tg,iter,ifs,0⟩] scope pos) 0 (.ref it) acc { cenv with scope:=relabel scope X.env }) (RR acc cenv.locals) s₄) E s₃) E s:=by
 have oaH:∀ {σ1:St} {b:Addr},(∀ i∈ioC nt cap.length,σ1[i]?=(kO nt cap σ)[i]?)->OA (uL own nt cap) σ1 b->H b≠none:=fun hio z=>(rp.OA_there (YZ hio z)).1
 refine GI (σc:=kO nt cap σ) I hcalm S T st0 hf hg ht (fun fp L s' H'=>ux (he fp L s' H') hme) (by rw [KW,CO.len]) (fun j x v e1 e2 e3=>?_)
  (fun p i m σ1 H1=>H p=none/\m=ds.length - i/\i<=ds.length/\∃ F1 ρi accD xs rest,CW C own nt cap σ F H F g ft fe ds ys ρe p i σ1 H1 F1 ρi accD xs rest)
  (fun p H1=>H p=none/\∃ σ1 F1 xs,Rep C.K (uL own nt cap) F1 H1 σ1 ρe/\(∀ i∈ioC nt cap.length,σ1[i]?=(kO nt cap σ)[i]?)/\Chg (OA (uL own nt cap) σ1) F H F1 H1/\H1 p=some (.lst xs)/\F1 p=none/\IsL C.K F1 xs ys) (fun p hp=>?_) ?_ RR ?_
 ·obtain ⟨j',k,rfl,h1,h2⟩:=get_cap.mp e2
  obtain ⟨y,g1,g2,g3⟩:=CO.at_ j' k h1
  rw [g1] at e1; cases e1
  obtain ⟨k',hk'⟩:=e3
  rcases g3 with ⟨g3,g4⟩ | g3
  ·exact ⟨k,g2,h2,g3,g4⟩
  ·exact absurd hk' (g3 k')
 ·obtain ⟨r1,c1,hF⟩:=YS (C:=C) (u:=.lst []) (qcm (nt:=nt) rp CO.nd) hp
  exact ⟨ds.length,hp,by simp,bB _,F,kO nt cap ρ1,[],[],ys,r1,fun _ _=>rfl,c1.ofNo,Same.refl _,qo,hF,.nil,ax _,by simpa using hrun,rfl⟩
 ·rintro p i m σ1 H1 ⟨hp,rfl,hle,F1,ρi,accD,xs,rest,w⟩
  by_cases hlt:i < ds.length
  ·have hd:ds.drop i=ds[i]::ds.drop (i+1):=List.drop_eq_getElem_cons hlt
   have run:=w.run
   rw [hd] at run
   obtain ⟨ρa,ea,b,ρb,eb,hrest⟩:=UF run
   have sub1:Same F H1:=w.gr.trans w.rep.sub
   refine .inr ⟨itI.go i H1 hlt sub1,fun x H2 y=>?_⟩
   obtain ⟨F2,c2,s2,is2⟩:=itI.yld i F1 H1 x H2 ds[i] (by simp [hlt]) w.gr w.rep.sub y
   have rp2:=w.rep.grow c2 s2
   have nop:∀ {σ9:St},(∀ i∈ioC nt cap.length,σ9[i]?=(kO nt cap σ)[i]?)->¬OA (uL own nt cap) σ9 p:=fun hio z=>oaH hio z hp
   have keepP:∀ {A:Addr->Prop} {Fa Ha Fb Hb:Hp} {zs:List V},Chg A Fa Ha Fb Hb->¬A p->Ha p=some (.lst zs)->Fa p=none->Hb p=some (.lst zs)/\Fb p=none:=fun {A Fa Ha Fb Hb zs} c na e1 e2=>by
    refine ⟨c.keep p _ e1 na,?_⟩
    cases q:Fb p with
    | none=>rfl
    | some u=>
     rcases c.new p (by rw [q]; simp) with z | z | z
     ·exact absurd e2 z
     ·rw [e1] at z; cases z
     ·exact absurd z na
   obtain ⟨at2,nF2⟩:=keepP c2 (fun z=>z) w.at_ w.nF
   refine ⟨F2,ρi,ds[i],rp2,is2,ρa,ea,fun σ3 rp3 oa3 io3=>?_⟩
   have io3':∀ i∈ioC nt cap.length,σ3[i]?=(kO nt cap σ)[i]?:=fun i hi=>(io3 i hi).trans (w.io i hi)
   refine ⟨F2,ρa,rp3,?_⟩
   rw [eb]
   intro F4 H4 rp4 c4
   obtain ⟨at4,nF4⟩:=keepP c4 (nop io3') at2 nF2
   have chg4:Chg (OA (uL own nt cap) σ3) F H F4 H4:=by
    have q1:Chg (OA own σ) F H F1 H1:=w.chg.mono fun b z=>YZ w.io z
    have mv:∀ {b},OA (uL own nt cap) σ1 b->OA (uL own nt cap) σ3 b:=fun {b} z=>by
     obtain ⟨i',hi',e'⟩:=z
     obtain ⟨j,k,rfl,g1,g2⟩:=mem_ownC.mp hi'
     have hm:nt+j∈ioC nt cap.length:=mem_ioC.mpr ⟨j,(aA.mp g1).1,rfl⟩
     exact ⟨nt+j,hi',by rw [io3' _ hm,<-w.io _ hm]; exact e'⟩
    exact ((w.chg.mono fun b z=>mv z).trans' c2.ofNo).trans' c4
   have gr4:Same F F4:=(w.gr.trans c2.grow).trans c4.grow
   have is4:IsL C.K F4 xs accD:=(w.is.mono c2.grow).mono c4.grow
   rcases hrest with ⟨rfl,y',ρc,r,ec,er,hr⟩ | ⟨rfl,er⟩
   ·rw [if_pos rfl]
    refine ⟨F4,ρb,rp4,?_⟩
    rw [ec]
    intro v F5 H5 rp5 c5 mo5
    obtain ⟨at5,nF5⟩:=keepP c5 (nop io3') at4 nF4
    have hlen:xs.length=accD.length:=is4.length
    refine ⟨xs,at5,by have:=w.le; omega,ds.length - (i+1),by omega,hp,rfl,hlt,F5,ρc,accD++[y'],xs++[v],r,?_⟩
    have cp:Chg (fun b=>b=p) F5 H5 F5 (upd H5 p (.lst (xs++[v]))):=⟨fun b o e n=>by rw [qx n]; exact e,fun b e=>by
     by_cases q:b=p
     ·rw [q,qo]; simp
     ·rw [qx q]; exact e,Same.refl _,fun b e=>.inl e⟩
    have sb5:Same F5 (upd H5 p (.lst (xs++[v]))):=fun b o e=>by rw [qx (qI e nF5)]; exact rp5.sub b o e
    have rp6:Rep C.K (uL own nt cap) F5 (upd H5 p (.lst (xs++[v]))) σ3 ρc:=by
     refine ⟨sb5,rp5.len,rp5.val,fun i d hi e=>?_,rp5.opn,rp5.dis⟩
     obtain ⟨a,h1,h2,h3⟩:=rp5.ow i d hi e
     have na:a≠p:=fun z=>by subst z; exact nop io3' ⟨i,hi,h1⟩
     exact ⟨a,h1,h2,h3.grow (Same.refl _) fun o z=>by rw [qx na]; exact z⟩
    refine ⟨rp6,io3',?_,(gr4.trans c5.grow),qo,nF5,(is4.mono c5.grow).append (.cons mo5 .nil),by simp only [ai,ap,ba]; have:=w.le; omega,er,?_⟩
    ·exact (chg4.trans' c5).trans cp fun b z=>.inr (by rw [z]; exact hp)
    ·rw [aV,<-w.all,hr]; rfl
   ·rw [if_neg bf]
    exact ⟨ds.length - (i+1),by omega,hp,rfl,hlt,F4,ρb,accD,xs,rest,rp4,io3',chg4,gr4,at4,nF4,is4,by have:=w.le; omega,er,w.all⟩
  ·have e:i=ds.length:=by omega
   subst e
   have run:=w.run
   rw [List.drop_length] at run
   unfold jt at run
   cases run
   have ha:=w.all
   rw [aZ] at ha
   subst ha
   exact .inl ⟨itI.stop _ H1 (ax _) (w.gr.trans w.rep.sub),hp,σ1,F1,xs,w.rep,w.io,w.chg,w.at_,w.nF,w.is⟩
 ·rintro p L H' s' ⟨hp,σ1,F1,xs,r1,io1,c1,e1,n1,is1⟩ hns hfp hinv
  exact hRR p L s' F1 H' hp (Xa rp CO.nd r1 io1 c1) (c1.mono fun b z=>YZ io1 z) n1 ⟨xs,e1,is1⟩ hns hfp hinv
theorem KY:∀ (ds:List D) (ρ:Sl) (c:Str) (o:Sl),jt g ft fe ds ρ≠.exc c o:=by
 intro ds
 induction ds with
 | nil=>intro ρ c o z; cases z
 | cons d ds ih=>
  intro ρ c o z
  unfold jt yS at z
  cases q1:g d ρ with
  | exc c=>rw [q1] at z; cases z
  | bad=>rw [q1] at z; cases z
  | ok ρ1=>
   rw [q1] at z
   simp only [Out.plain,Out.ok_bind] at z
   cases q2:ft ρ1 with
   | exc c=>rw [q2] at z; cases z
   | bad=>rw [q2] at z; cases z
   | ok p=>
    rw [q2] at z
    simp only [Out.plain,Out.ok_bind] at z
    by_cases hb:p.1=true
    ·rw [if_pos hb] at z
     cases q3:fe p.2 with
     | exc c=>rw [q3] at z; cases z
     | bad=>rw [q3] at z; cases z
     | ok r=>
      rw [q3] at z
      simp only [Out.plain,Out.ok_bind] at z
      cases q4:jt g ft fe ds r.2 with
      | exc c=>exact ih _ _ _ q4
      | bad=>rw [q4] at z; cases z
      | ok t=>rw [q4] at z; cases z
    ·rw [if_neg hb] at z
     simp only [Out.ok_bind] at z
     cases q4:jt g ft fe ds p.2 with
     | exc c=>exact ih _ _ _ q4
     | bad=>rw [q4] at z; cases z
     | ok t=>rw [q4] at z; cases z
theorem JF {α:Type} {Z:Out (D×Sl)->Prop} (rp:Rep C.K own F H σ ρ) (hb:¬Z .bad) (hx:∀ c ρ',Z (.exc c ρ')->∀ F' H',Same F' H'->ZY C.K C.ox F' H' σ ρ'->Chg (OA own σ) F H F' H'->C.E (C.cv c) none H') (h:Z (ju own nt cap fi g ft fe ρ)) :
  tIt C own fi σ H fun J H1=>∃ ds ρ1 ys ρe F1,ds.length<=sizeLine/\jt g ft fe ds (kO nt cap ρ1)=.ok (ys,ρe)/\Rep C.K own F1 H1 σ ρ1/\Chg (OA own σ) F H F1 H1/\ItIs C.K F1 J ds/\Z (.ok (.lst ys,jx own ρe nt cap ρ1)):=by
 refine ⟨F,ρ,rp,?_⟩
 unfold ju at h
 cases q:fi ρ with
 | exc c=>rw [q] at h; exact hx c _ h
 | bad=>rw [q] at h; exact (hb h).elim
 | ok p=>
  obtain ⟨ds,ρ1⟩:=p
  rw [q] at h
  have h:Z (if ds.length<=sizeLine then (jt g ft fe ds (kO nt cap ρ1)).bind fun q=>.ok (.lst q.1,jx own q.2 nt cap ρ1) else .bad):=h
  by_cases z:ds.length<=sizeLine
  ·rw [if_pos z] at h
   cases q2:jt g ft fe ds (kO nt cap ρ1) with
   | exc c=>exact absurd q2 (KY _ _ _ _)
   | bad=>rw [q2] at h; exact (hb h).elim
   | ok p=>
    obtain ⟨ys,ρe⟩:=p
    rw [q2] at h
    exact fun J F1 H1 rp1 c1 it=>⟨ds,ρ1,ys,ρe,F1,z,q2,rp1,c1,it,h⟩
  ·rw [if_neg z] at h; exact (hb h).elim
theorem jC (hcalm:X.calm=true) (S:ScOk X scope) (CO:CapOk X scope N nt cap) (hi:PI X tg iter (tIt C own fi))
  (hg:∀ fp L s' H',PG (jN X scope N fp L s' H') tg (tGd (ctC C nt cap.length) (uL own nt cap) g)) (ht:∀ fp L s' H',PTs (jN X scope N fp L s' H') ifs (tT (ctC C nt cap.length) (uL own nt cap) ft))
  (he:∀ fp L s' H',PE (jN X scope N fp L s' H') elt (tE (ctC C nt cap.length) (uL own nt cap) me fe)) (hme:me≠.any:=by decide) (hs:∀ x,foldedSetIterable iter X.env x=pure x:=by intro _; rfl) :
  PE X (.ListComp elt [⟨tg,iter,ifs,0⟩] scope pos) (tE C own .fr (ju own nt cap fi g ft fe)):=by
 refine ⟨?_⟩
 intro pins s σ H Q I ⟨F,ρ,rp,h⟩
 rw [eval_ListComp]
 have main:=JF (α:=Unit) (Z:=fun r=>Po C own .fr σ F H r Q) rp (fun z=>z) (fun c _ z=>z) h
 refine wpAny_comprehension_free (use:=none) rfl hs (gF (zo I S)) S.kind S.names (thn (hi pins s σ H _ I main) fun xv s1 h1=>thn h1 fun itv s2 h2=>?_)
 obtain ⟨it,fp,tn,J,H2,e,I2,T,st2,f2,ds,ρ1,ys,ρe,F1,hz,hrun,rp1,c1,itI,po⟩:=h2
 subst e
 refine JE (RR:=fun acc C'=>compPost (model X.prog X.w) X.A X.xe none (EP X pins σ Q) acc C') I2 hcalm S CO T st2 f2 rp1 itI hz hg ht he hme hrun fun p L s' F' H' hp rp' c' nF o hns hfp hinv=>?_
 obtain ⟨m,hn⟩:=hns
 refine ⟨m,hn,fun h' sb=>⟨.ref p,H',hinv h' sb,rfl,?_⟩⟩
 refine po (.ref p) F' H' rp' (c1.trans' c') ⟨p,rfl,?_,nF,o⟩
 cases q:H p with
 | none=>rfl
 | some u=>exact absurd hp (c1.stay p (by rw [q]; simp))
theorem yk {pos' spos:Pos} (hN:X.N.Nodup) (hix:X.N[i]?=some x) (hx:Loc X.env.scope x) (hcalm:X.calm=true) (S:ScOk X scope) (CO:CapOk X scope N nt cap) (hi:PI X tg iter (tIt C own fi))
  (hg:∀ fp L s' H',PG (jN X scope N fp L s' H') tg (tGd (ctC C nt cap.length) (uL own nt cap) g)) (ht:∀ fp L s' H',PTs (jN X scope N fp L s' H') ifs (tT (ctC C nt cap.length) (uL own nt cap) ft))
  (he:∀ fp L s' H',PE (jN X scope N fp L s' H') elt (tE (ctC C nt cap.length) (uL own nt cap) me fe)) (hme:me≠.any:=by decide) (hio:i∉C.io:=by exact VZ rfl)
  (hsw:swapsWith (.ListComp elt [⟨tg,iter,ifs,0⟩] scope pos) (some (.Name x pos')) spos.line X.env=pure true:=by rfl) (hs:∀ x,foldedSetIterable iter X.env x=pure x:=by intro _; rfl)
  (hfx:X.fn x=true\/X.env.scope.names.lookup x=some .local:=by first | exact .inl rfl | exact .inr rfl) :
  PS X (.Assign [.Name x pos'] (.ListComp elt [⟨tg,iter,ifs,0⟩] scope pos) spos) (tSt C own (i::wy own [i]) (kb i (ju own nt cap fi g ft fe))):=by
 refine ⟨?_⟩
 intro pins s σ H D I ⟨F,ρ,rp,h⟩
 rw [exec_Assign_Name_used _ _ _ _ hsw]
 refine wpAny_bind (wpAny_standAt (wpAny_bind ?_))
 show wpAny _ X.A (do let _ <-comprehension (.ListComp elt [⟨tg,iter,ifs,0⟩] scope pos) scope X.env _ (newList []) false (eval iter X.env) (some (assign (.Name x pos') X.env))) _ _ s
 have main:=JF (α:=Unit) (Z:=fun r=>PoS C own (i::wy own [i]) σ F H (r.bind fun p=>if i < p.2.length then .ok (.nx,p.2.set i (some p.1)) else .bad) D) rp (fun z=>z) (fun c _ z=>z) h
 refine wpAny_bind (wpAny_mono (wpAny_comprehension_free (use:=some (assign (.Name x pos') X.env)) (Q:=fun _ s'=>SP X pins D .next s') rfl hs (gF (zo I S)) S.kind S.names (thn (hi pins s σ H _ I main) fun xv s1 h1=>thn h1 fun itv s2 h2=>?_)) (fun _ s' hq=>wpAny_pure (wpAny_pure hq)) fun _ _ e=>e)
 obtain ⟨it,fp,tn,J,H2,e,I2,T,st2,f2,ds,ρ1,ys,ρe,F1,hz,hrun,rp1,c1,itI,po⟩:=h2
 subst e
 refine JE (RR:=fun acc C'=>compPost (model X.prog X.w) X.A X.xe (some (assign (.Name x pos') X.env)) (fun _ s'=>SP X pins D .next s') acc C') I2 hcalm S CO T st2 f2 rp1 itI hz hg ht he hme hrun fun p L s' F' H' hp rp' c' nF o hns hfp hinv=>?_
 obtain ⟨m,hn⟩:=hns
 have I3:Inv X pins σ H' s':=by simpa using hinv s'.heap (.refl ..)
 have hH:H p=none:=by
  cases q:H p with
  | none=>rfl
  | some u=>exact absurd hp (c1.stay p (by rw [q]; simp))
 show wpAny _ X.A (assign (.Name x pos') X.env (.ref p)) _ _ s'
 refine wpAny_assign_Name (Jh I3 hN hix hx (v:=.ref p) rfl (fun s4 I4 ⟨a,sba,ha⟩=>?_) hfx)
 obtain ⟨f0,f1,f2',f3,f4,f5⟩:=hfp
 have nL:L≠a:=by
  rcases ha with z | z
  ·rw [z]; exact f1
  ·exact fun q=>f4 x a z q.symm
 refine ⟨m,hn.sameBut sba nL,fun h' sb=>?_⟩
 have I5:Inv X pins (σ.set i (some (.ref p))) H' { s4 with heap:=h' }:=by
  have:=I4.turned (h':=h') (t':=s4.toks) (it:=L) (fun b o hb e=>(sb.2 b hb).trans e) f0 f1 f3 f4 f5
  exact this
 refine ⟨_,H',I5,?_⟩
 have po:PoS C own (i::wy own [i]) σ F H (if i < (jx own ρe nt cap ρ1).length then .ok (.nx,(jx own ρe nt cap ρ1).set i (some (.lst ys))) else .bad) D:=po
 by_cases z:i < (jx own ρe nt cap ρ1).length
 ·rw [if_pos z] at po
  refine po _ F' H' ⟨rp'.putO z nF (fun y=>(rp.OA_there y).1 hH) o,c1.trans' c',fun b y=>?_,fun j hj=>aw fun y=>hio (by rw [y]; exact hj)⟩
  obtain ⟨j,hj,e⟩:=y
  by_cases qj:j=i
  ·subst qj
   rw [aH (by rw [rp'.len]; exact z)] at e
   cases e
   exact .inr hH
  ·have hj':=(jb j).mp ((ac.mp hj).resolve_left qj)
   rw [aw (bv qj)] at e
   exact .inl ⟨j,hj'.1,e⟩
 ·rw [if_neg z] at po; exact po.elim
end
def Fly (h:Heap) (ex T:Addr) (cls:Value):Prop:=∃ oe vs oT ts,h.get? ex=some oe/\oe.cls=cls/\oe.data=.fields vs/\vs[1]?=some (.ref T)/\T≠ex/\h.get? T=some oT/\oT.data=.fields ts/\ts[3]?=some .none
def CXk (P:Program) (w:World):CXT:=fun outer H s E e s'=>∃ ex T C H',e=.ref ex/\s'.os=s.os/\AllBare s'.gens/\Un (frs outer) [] H H' s.heap s'.heap/\HOk P w H' s'.heap/\Fly s'.heap ex T (.ref C)/\H' ex=none/\H' T=none/\s.heap.get? ex=none/\s.heap.get? T=none/\E (.ref C) none H'
def InB (X:Cx) (H:Hp) (s:Shared) (ex:Addr) (cls:Value):Prop:=H ex=none/\X.s₀.heap.get? ex=none /\
 ((∃ oe vs,s.heap.get? ex=some oe/\oe.cls=cls/\oe.data=.fields vs/\vs[1]?=some .none)\/∃ T,Fly s.heap ex T cls/\H T=none/\X.s₀.heap.get? T=none)
variable {ex:Addr} {T0:Option Addr}
section
variable {cls:Value}
noncomputable def JG (ex:Addr) (T:Option Addr) (X:Cx):List Addr:=ex::(T.toList++frs X.stack)
theorem Wp (I:Inv X pins σ H s) (hb:b∈frs X.stack):∃ o,s.heap.get? b=some o/\∀ vs,o.data≠.fields vs:=(I.stack.mem hb).2
theorem Xb (hs:X.stack=X.env::X.outer):∀ env∈X.stack,∀ b,env.frame=some b->b∈frs X.stack:=fun env he b hb=>dh.mpr ⟨env,he,hb⟩
structure Gone (X:Cx) (H:Hp) (s:Shared) (ex:Addr) (cls:Value) (h2:Heap):Prop where
 keep:∀ b o,s.heap.get? b=some o->H b≠none\/(X.s₀.heap.get? b≠none/\b∉frs X.stack)->h2.get? b=some o
 slot:∀ b o,s.heap.get? b=some o->b∈frs X.stack->∃ sl,h2.get? b=some { o with slots:=sl }
 ok:HOk X.prog X.w H h2
 un:Un (frs X.stack) [] H H s.heap h2\/True
theorem Xc {h2:Heap} (I:Inv X pins σ H s) (hex:H ex=none) (hT:∀ T,T0=some T->H T=none) (n1:X.s₀.heap.get? ex=none) (n2:∀ T,T0=some T->X.s₀.heap.get? T=none)
  (st:(bV s.heap (JG ex T0 X)).StaysIn h2) (sl:∀ b o,s.heap.get? b=some o->(∀ vs,o.data≠.fields vs)->∃ sl,h2.get? b=some { o with slots:=sl }):Gone X H s ex cls h2:=by
 have keep:∀ b o,s.heap.get? b=some o->b≠ex->(∀ T,T0=some T->b≠T)->b∉frs X.stack->h2.get? b=some o:=fun b o e h1 h2 h3=>st b o (d7 _ e fun hm=>by
  rcases ac.mp hm with q | hm
  ·exact h1 q
  ·rcases ak.mp hm with q | q
   ·exact h2 b (Option.mem_toList.mp q) rfl
   ·exact h3 q)
 have k1:∀ b o,s.heap.get? b=some o->H b≠none->h2.get? b=some o:=fun b o e hn=>keep b o e (fun q=>hn (by rw [q]; exact hex)) (fun T hT' q=>hn (by rw [q]; exact hT T hT')) fun q=>hn (I.stkFree b q)
 refine ⟨fun b o e hb=>?_,fun b o e hb=>?_,fun b u e=>?_,.inr trivial⟩
 ·rcases hb with hb | ⟨hb,hf⟩
  ·exact k1 b o e hb
  ·exact keep b o e (fun q=>hb (by rw [q]; exact n1)) (fun T hT' q=>hb (by rw [q]; exact n2 T hT')) hf
 ·obtain ⟨o',e',nf⟩:=Wp I hb
  rw [e] at e'; cases e'
  exact sl b o e nf
 ·refine (I.hok b u e).stay (fun c v hc q=>k1 c v q ?_) (fun _ q=>q) fun _ _ q=>q
  rcases hc with z | z
  ·rw [z,e]; simp
  ·rw [z]; simp
theorem JH {h2:Heap} (I:Inv X pins σ H s) (hT:∀ T,T0=some T->H T=none) (n2:∀ T,T0=some T->X.s₀.heap.get? T=none) (g:Gone X H s ex cls h2) (hex0:X.ex=[])
  (tr:h2.Traced (bV s.heap (JG ex T0 X)) ex cls):∃ T,Fly h2 ex T cls/\H T=none/\X.s₀.heap.get? T=none:=by
 obtain ⟨oe,vs,T,oT,ts,a1,a2,a3,a4,a5,a6,a7,a8,a9⟩:=tr
 have noS:∀ o,s.heap.get? T=some o->(∃ q,T0=some q/\T=q):=fun o e=>by
  have hm:T∈JG ex T0 X:=by
   refine bY fun hn=>?_
   rw [d7 _ e hn] at a5
   cases a5
  rcases ac.mp hm with q | hm
  ·exact absurd q a6
  ·rcases ak.mp hm with q | q
   ·exact ⟨T,Option.mem_toList.mp q,rfl⟩
   ·obtain ⟨o',e',nf⟩:=Wp I q
    obtain ⟨sl,e2⟩:=g.slot T o' e' q
    rw [a7] at e2
    cases e2
    exact absurd a8 (nf ts)
 refine ⟨T,⟨oe,vs,oT,ts,a1,a2,a3,a4,a6,a7,a8,a9⟩,?_,?_⟩
 ·cases q:H T with
  | none=>rfl
  | some u=>
   have hlt:=I.hok.lt q
   obtain ⟨o,e⟩:∃ o,s.heap.get? T=some o:=by
    have:=(I.hok T u q)
    have st:=this.stay (H':=H) (h':=s.heap) (fun b v _ z=>z) (fun _ z=>z) fun _ _ z=>z
    cases z:s.heap.get? T with
    | some o=>exact ⟨o,rfl⟩
    | none=>
     exfalso
     cases u with
     | lst xs=>obtain ⟨_,_,_,_,e⟩:=st; rw [z] at e; cases e
     | tup xs=>obtain ⟨_,_,_,_,e,_⟩:=st; rw [z] at e; cases e
     | dK kvs=>obtain ⟨_,_,_,_,o,_,_,e,_⟩:=st; rw [z] at e; cases e
     | dT kvs=>obtain ⟨_,_,_,_,o,_,_,e,_⟩:=st; rw [z] at e; cases e
     | set S n=>obtain ⟨o,_,_,_,e,_⟩:=st; rw [z] at e; cases e
     | ins C dx fs=>obtain ⟨_,_,_,e,_⟩:=st; rw [z] at e; cases e
     | own y=>obtain ⟨_,e⟩:=st; rw [z] at e; cases e
     | xd fs=>obtain ⟨_,⟨_,_,_,e,_⟩,_⟩:=st; rw [z] at e; cases e
     | rng lo hi=>obtain ⟨_,_,_,e⟩:=st; rw [z] at e; cases e
     | frz ob u=>obtain ⟨e,_⟩:=st; rw [z] at e; cases e
     | tbl ps=>have e:s.heap.get? T=some _:=st; rw [z] at e; cases e
     | met f y=>have e:s.heap.get? T=some _:=st; rw [z] at e; cases e
     | ext φ=>obtain ⟨_,⟨_,e⟩,_⟩:=st; rw [z] at e; cases e
   obtain ⟨q',hq',rfl⟩:=noS o e
   rw [hT _ hq'] at q; cases q
 ·cases q:X.s₀.heap.get? T with
  | none=>rfl
  | some o=>
   obtain ⟨o',e'⟩:=I.base.there T o q (by rw [hex0]; simp)
   obtain ⟨q',hq',rfl⟩:=noS o' e'
   rw [n2 _ hq'] at q; cases q
theorem UG {E:Value->Shared->Prop} {Q:Unit->Shared->Prop} (I:Inv X pins σ H s) (hstk:X.stack=X.env::X.outer) (hfr:X.env.frame=some X.env.locals) (hex0:X.ex=[]) (x:InB X H s ex cls)
  (k:∀ h2 T,Gone X H s ex cls h2->Fly h2 ex T cls->H T=none->X.s₀.heap.get? T=none->Q () { s with heap:=h2 }):wpAny (model X.prog X.w) X.A (leaving X.env (.ref ex)) Q E s:=by
 obtain ⟨hex,n1,hx⟩:=x
 have hF:X.A.frames=some (X.env::X.outer):=by rw [I.ok.frames,hstk]
 have hB:∀ as,(bV s.heap as).StaysIn s.heap:=fun as b o e=>PySem.W.of_hideAll as e
 have hl:∀ T0,s.heap.FunFrames (bV s.heap (JG ex T0 X)) (X.env::X.outer):=fun T0=>by
  rw [<-hstk]
  exact PySem.W.funFrames_hide I.stack fun env he b hb=>aa _ (aM _ (Xb hstk env he b hb))
 have hn:∀ T0,(bV s.heap (JG ex T0 X)).get? ex=none:=fun T0=>dU _ (ac.mpr (.inl rfl))
 rcases hx with ⟨oe,vs,a1,a2,a3,a4⟩ | ⟨T,⟨oe,vs,oT,ts,a1,a2,a3,a4,a5,a6,a7,a8⟩,hT,n2⟩
 ·refine wpAny_leaving_first (base:=bV s.heap (JG ex none X)) hF (hl none) hfr a1 (hB _) (hn none) a3 a4 fun h2 ⟨st,_,tr,sl⟩=>?_
  have g:Gone X H s ex cls h2:=Xc I hex (T0:=none) (fun _ z=>nomatch z) n1 (fun _ z=>nomatch z) st sl
  rw [a2] at tr
  obtain ⟨T',f1,f2,f3⟩:=JH I (T0:=none) (fun _ z=>nomatch z) (fun _ z=>nomatch z) g hex0 tr
  exact k h2 T' g f1 f2 f3
 ·have hT':∀ T1,some T=some T1->H T1=none:=fun T1 z=>by cases z; exact hT
  have n2':∀ T1,some T=some T1->X.s₀.heap.get? T1=none:=fun T1 z=>by cases z; exact n2
  have tr0:s.heap.Traced (bV s.heap (JG ex (some T) X)) ex cls:=⟨oe,vs,T,oT,ts,a1,a2,a3,a4,dU _ (aa _ (dW _ (by simp))),a5,a6,a7,a8⟩
  refine wpAny_leaving_next (base:=bV s.heap (JG ex (some T) X)) hF (hl (some T)) hfr tr0 (hB _) (hn _) fun h2 ⟨st,_,tr,sl⟩=>?_
  have g:Gone X H s ex cls h2:=Xc I hex hT' n1 n2' st sl
  obtain ⟨T',f1,f2,f3⟩:=JH I hT' n2' g hex0 tr
  exact k h2 T' g f1 f2 f3
end
variable {A:Around} {P:Program} {w:World} {mg:Str->Option Value} {base h:Heap} {qual:Str} {outer:List Env} {s0:Shared}
section
variable {f:Addr} {cd:Value} {E:XK}
abbrev cxk (P:Program) (w:World) (K:Frag) (mg:Str->Option Value) (base:Heap) (N:List Str) (qual:Str) (scope:Scope) (f:Addr) (cd:Value) (A:Around) (outer:List Env) (s0:Shared) (H0:Hp) (E:XK):Cx:=qbX (CXk P w) P w K mg base N qual scope f cd A outer s0 H0 E
theorem qeh {C:Addr} (I:Inv (cxk P w K mg base N qual scope f cd A outer s0 H0 E) pins σ H s) (x:InB (cxk P w K mg base N qual scope f cd A outer s0 H0 E) H s ex (.ref C)) (hE:E (.ref C) none H) :
  (cxk P w K mg base N qual scope f cd A outer s0 H0 E).xe (.ref ex) s:=by
 refine UG I rfl rfl rfl x fun h2 T g fl hT nT=>?_
 have bs0:=I.base
 have neL:∀ b o,s0.heap.get? b=some o->b≠(cxk P w K mg base N qual scope f cd A outer s0 H0 E).env.locals:=fun b o e=>aE (aI (ay e) I.ok.above)
 have nst:∀ b o,s0.heap.get? b=some o->b∉frs outer->b∉frs (cxk P w K mg base N qual scope f cd A outer s0 H0 E).stack:=fun b o e hb z=>by
  rcases ac.mp (I.stkSub b z) with q | q
  ·exact neL b o e q
  ·exact hb q
 have ist:∀ b,b∈frs outer->b∈frs (cxk P w K mg base N qual scope f cd A outer s0 H0 E).stack:=fun b hb=>by
  show b∈frs (_::outer)
  unfold frs
  rw [bM]
  exact aa _ hb
 refine ⟨ex,T,C,H,rfl,I.os,I.bare,⟨fun b o e n hb hx=>?_,fun b o e n hb hx=>?_,bs0.free,fun b o e hx=>?_,bs0.tups,bs0.frzs,bs0.tbls⟩,g.ok,fl,x.1,hT,x.2.1,nT,hE⟩
 ·exact g.keep b o (bs0.keep b o e n hb hx) (.inr ⟨by show s0.heap.get? b≠none; rw [e]; simp,nst b o e hb⟩)
 ·obtain ⟨sl,q⟩:=bs0.slot b o e n hb hx
  obtain ⟨sl2,q2⟩:=g.slot b _ q (ist b hb)
  exact ⟨sl2,q2⟩
 ·obtain ⟨o',q⟩:=bs0.there b o e hx
  by_cases hb:b∈frs (cxk P w K mg base N qual scope f cd A outer s0 H0 E).stack
  ·obtain ⟨sl,q2⟩:=g.slot b o' q hb
   exact ⟨_,q2⟩
  ·exact ⟨o',g.keep b o' q (.inr ⟨by show s0.heap.get? b≠none; rw [e]; simp,hb⟩)⟩
theorem qcn {e:Value} (hex0:X.ex=[]) (I:Inv X pins σ H s) (h:CXk X.prog X.w X.stack H s E e s'):∃ ex C H',e=.ref ex/\Inv X pins σ H' s'/\InB X H' s' ex (.ref C)/\E (.ref C) none H':=by
 obtain ⟨ex,T,C,H',rfl,os,bare,un,hok,fl,e1,e2,n1,n2,hE⟩:=h
 have old:∀ b,s.heap.get? b=none->X.s₀.heap.get? b=none:=fun b hb=>by
  cases q:X.s₀.heap.get? b with
  | none=>rfl
  | some o=>
   obtain ⟨o',e'⟩:=I.base.there b o q (by rw [hex0]; simp)
   rw [hb] at e'; cases e'
 exact ⟨ex,C,H',rfl,I.call' (ch:=[]) os un hok bare (fun b z=>absurd z (by simp)),⟨e1,old ex n1,.inr ⟨T,fl,e2,old T n2⟩⟩,hE⟩
theorem qO:gC (CXk P w) (cxk P w K mg base N qual scope f cd A outer s0 H0 E) E:=fun pins σ H s e s' I h=>by
 obtain ⟨ex,C,H',rfl,I',x,hE⟩:=qcn rfl I h
 exact qeh I' x hE
theorem qco {C:Addr} {bmB:List Value} {newId:String} (kin:K.In h) (hm:mg x=some (.ref C)) (q:df K C bmB newId=true):OwnCls x C bmB newId mg h:=by
 refine ⟨hm,?_⟩
 unfold df at q
 split at q
 case h_2=>cases q
 case h_1 dd cd sl lk=>
  split at q
  case h_2=>cases q
  case h_1 C' bm a0 a1 a2 a3 n a5 em es=>
   have q':=q
   simp only [aO,beq_iff_eq,Bool.not_eq_true'] at q'
   obtain ⟨⟨⟨⟨⟨e1,e2⟩,nodel⟩,tl⟩,nsok⟩,noinit⟩:=q'
   obtain ⟨nm,bs,mro,ns,qn,hd,sn,sub,ab,col,del⟩:=cd
   dsimp only at em nodel nsok noinit
   obtain ⟨sll⟩:=sl
   dsimp only at es
   subst em nodel es e1 e2
   exact ⟨bm,ns,nm,qn,bs,hd,sn,sub,ab,col,dd,a0,a1,a2,a3,a5,_,kin _ _ lk,.of_isNs (PySem.W.isNs_of_in kin nsok),PySem.W.nsMap_none_of_in kin nsok noinit,PySem.W.tail_of_in kin tl⟩
end
theorem qei {T:Addr} (hok:HOk P w H h) (q:H T=some u):∃ o,h.get? T=some o:=by
 have st:=hok T u q
 cases z:h.get? T with
 | some o=>exact ⟨o,rfl⟩
 | none=>
  exfalso
  cases u with
  | lst xs=>obtain ⟨_,_,_,_,e⟩:=st; rw [z] at e; cases e
  | tup xs=>obtain ⟨_,_,_,_,e,_⟩:=st; rw [z] at e; cases e
  | dK kvs=>obtain ⟨_,_,_,_,o,_,_,e,_⟩:=st; rw [z] at e; cases e
  | dT kvs=>obtain ⟨_,_,_,_,o,_,_,e,_⟩:=st; rw [z] at e; cases e
  | set S n=>obtain ⟨o,_,_,_,e,_⟩:=st; rw [z] at e; cases e
  | ins C dx fs=>obtain ⟨_,_,_,e,_⟩:=st; rw [z] at e; cases e
  | own y=>obtain ⟨_,e⟩:=st; rw [z] at e; cases e
  | xd fs=>obtain ⟨_,⟨_,_,_,e,_⟩,_⟩:=st; rw [z] at e; cases e
  | rng lo hi=>obtain ⟨_,_,_,e⟩:=st; rw [z] at e; cases e
  | frz ob u=>obtain ⟨e,_⟩:=st; rw [z] at e; cases e
  | tbl ps=>have e:h.get? T=some _:=st; rw [z] at e; cases e
  | met f y=>have e:h.get? T=some _:=st; rw [z] at e; cases e
  | ext φ=>obtain ⟨_,⟨_,e⟩,_⟩:=st; rw [z] at e; cases e
abbrev bmV:List Value:=[.type "ValueError",.type "Exception",.type "BaseException",.type "object"]
noncomputable def yT (x:Str) (fr:Sl->Out (List D×Sl)):Sl->Out (Fl×Sl):=fun ρ=>(fr ρ).bind fun p=>.exc x p.2
theorem PoS.bindA {as:List AK} {o:Out (List D×Sl)} {k:List D×Sl->Out (Fl×Sl)} {D:Ends} {R:List V->Hp->Prop} (hp:PoS C own own' σ F H (o.bind k) D)
  (h:∀ vs F1 H1 ds ρ1,Rep C.K own F1 H1 σ ρ1->Chg (OA own σ) F H F1 H1->ArgV C.K H F1 H1 σ as vs ds->PoS C own own' σ F1 H1 (k (ds,ρ1)) D->R vs H1):PoA C own as σ F H o R:=by
 cases o with
 | ok p=>
  obtain ⟨ds,ρ1⟩:=p
  exact fun vs F1 H1 rp c av=>h vs F1 H1 ds ρ1 rp c av (PoS.shift (show PoS C own own' σ F H (k (ds,ρ1)) D from hp) (.ofE rp c))
 | exc x=>exact hp
 | bad=>exact hp.elim
def Xd (X:Cx) (C:Ct):Prop:=∀ (pins:List (Addr×Obj)) (σ:St) (H:Hp) (s:Shared) (ex A:Addr),Inv X pins σ H s->InB X H s ex (.ref A)->C.E (.ref A) none H->X.xe (.ref ex) s
theorem qej {f:Addr} {cd:Value}:Xd (cxk P w K mg base N qual scope f cd A outer s0 H0 C.E) C:=fun pins σ H s ex A I x hE=>qeh I x hE
variable {Cc:Addr}
section
variable {fr:Sl->Out (List D×Sl)} {np cpos:Pos}
theorem ArgV.len:∀ {as:List AK} {vs:List V} {ds:List D},ArgV K H0 F H σ as vs ds->vs.length=as.length
 | [],[],[],_=>rfl
 | .vl::as,v::vs,d::ds,h=>congrArg (·+1) (ArgV.len h.2)
 | .sl i::as,v::vs,d::ds,h=>congrArg (·+1) (ArgV.len h.2.2)
 | .fr::as,v::vs,d::ds,h=>congrArg (·+1) (ArgV.len h.2)
 | [],_::_,_,h=>h.elim
 | [],[],_::_,h=>h.elim
 | .vl::_,[],_,h=>h.elim
 | .vl::_,_::_,[],h=>h.elim
 | .sl _::_,[],_,h=>h.elim
 | .sl _::_,_::_,[],h=>h.elim
 | .fr::_,[],_,h=>h.elim
 | .fr::_,_::_,[],h=>h.elim
theorem yl (hx0:X.ex=[]) (ht:Xd X C) (hcalm:X.calm=true) (hg:Gl X x) (hm:X.mg x=some (.ref Cc)) (hcv:C.cv x=.ref Cc) (q:df X.K Cc bmV "ValueError.__new__"=true) (ha:PA X (e::es) (tAr C own as fr)) (hsz:as.length<=1000:=by decide) (hio:∀ i∈C.ox,i∈own:=by exact zk rfl) (hd:(x == ("__debug__":Str))=false:=by decide)
  (he:starEach (e::es) X.env=(false,eval e X.env)::starEach es X.env:=by exact kq rfl) (hpl:(backTo cpos (starEach es X.env)).any (·.1)=false:=by rfl) :
  PS X (.Raise (some (.Call (.Name x np) (e::es) [] cpos)) none pos) (tSt C own own' (yT x fr)):=by
 refine ⟨?_⟩
 intro pins s σ H D I ⟨F,ρ,rp,h⟩
 obtain ⟨tl,N,nm,qn,bs,hdct,sn,sub,ab,col,dd,k0,k1,k2,k3,k5,mN,hC,hN,hni,T⟩:=(qco I.ok.mod.kin hm q).obj
 refine wpAny_Raise_call_subT (C:=Cc) (nm:=nm) (q:=qn) (N:=N) (bs:=bs) (bm:=tl) (hdct:=hdct) (sn:=sn) (sub:=sub) (ab:=ab) (col:=col) (dd:=dd) (k0:=k0) (k1:=k1) (k2:=k2) (k3:=k3) (k5:=k5)
  PySem.F.excBase_ValueError (mN:=mN) (T.hasType PySem.F.excBase_ValueError.hasBase) (I.ok.hd hcalm) (by rw [he]; show (false||(backTo cpos (starEach es X.env)).any (·.1))=false; rw [hpl]; rfl) hni (KG I hg hm ⟨rfl,?_⟩ hd)
 have main:tAr C own as fr σ H fun vs H1=>vs.length<=sizeLine/\C.E (.ref Cc) none H1:=by
  refine ⟨F,ρ,rp,PoS.bindA h fun vs F1 H1 ds ρ1 rp1 c1 av h1=>⟨?_,?_⟩⟩
  ·rw [av.len]; exact bc hsz (by rw [sizeLine_eq]; decide)
  ·rw [<-hcv]; exact h1 F1 H1 rp1.sub (rp1.ioIs hio) .refl
 have run:=ha cpos pins s σ H _ I main
 rw [he] at run ⊢
 refine dX (wpAny_mono run (fun us s2 ⟨vs,H2,I2,r2,z2,hE⟩=>?_) fun _ _ y=>y)
 refine ⟨rfl,by rw [<-r2.length]; exact z2,I2.bk _ _ hC,hN.keeps I2.bk,T.keeps I2.bk,fun h' ex mk=>?_⟩
 have I3:Inv X pins σ H2 { s2 with heap:=h' }:=I2.kept (t':=s2.toks) mk.keeps
 obtain ⟨t,h1,h2,h3⟩:=mk.there
 refine ht pins σ H2 _ ex Cc I3 ⟨?_,?_,.inl ⟨_,_,h1,rfl,rfl,rfl⟩⟩ hE
 ·cases q2:H2 ex with
  | none=>rfl
  | some u=>
   have hlt:=I2.hok.lt q2
   refine absurd mk.new ?_
   obtain ⟨o,e⟩:=qei I2.hok q2
   rw [e]; simp
 ·cases q2:X.s₀.heap.get? ex with
  | none=>rfl
  | some o=>
   obtain ⟨o',e'⟩:=I2.base.there ex o q2 (by rw [hx0]; simp)
   rw [mk.new] at e'; cases e'
end
structure Caught (X:Cx) (pins:List (Addr×Obj)) (H:Hp) (s:Shared) (ex T Cc:Addr):Prop where
 fly:Fly s.heap ex T (.ref Cc)
 hex:H ex=none
 hT:H T=none
 n1:X.s₀.heap.get? ex=none
 n2:X.s₀.heap.get? T=none
 pp:∀ p∈X.pn++pins,p.1≠ex/\p.1≠T
section
variable {T:Addr}
theorem Caught.dT (c:Caught X pins H s ex T Cc):∃ oe vs,s.heap.get? T=some oe/\oe.data=.fields vs:=let ⟨oe,vs,oT,ts,a1,a2,a3,a4,a5,a6,a7,_⟩:=c.fly; ⟨oT,ts,a6,a7⟩
end
def DefOk (P:Program) (w:World) (K:Frag) (mg:Str->Option Value) (base:Heap) (cv:Str->Value) (k:Nat) (x:Str) (ps:List Str) (ms:List PM) (mr:Mo) (G:List D->Out (D×List D)):Prop:=
 ∃ f fd,FnOk P w K mg base (CXk P w) k f fd ps (spD K cv ms mr G)/\mg x=some (.ref f)/\keepIn K (.ref f)=true/\Binds K fd ps []
def jm (K:Frag) (mg:Str->Option Value) (x:Str) (st:Stmt) (ps:List Str):Prop:=∃ f fd,Fun K x x st f fd/\mg x=some (.ref f)/\Binds K fd ps []
theorem qN {P:Program} {w:World} {base:Heap} {cv:Str->Value} {k:Nat} {ms:List PM} {mr:Mo} {own':List Nat} {fb:Sl->Out (Fl×Sl)} (T:jm K mg x st ps) (S:FnScope N ps (qf st))
  (hbody:∀ (cdv:Value) (f:Addr) (A:Around) (outer:List Env) (s:Shared) (H:Hp) (E:XK),Room k (A.deeper (envOfC x (qf st) s.heap.objs.size f cdv)) ->
   PSs (cxk P w K mg base N x (qf st) f cdv A outer s H E) (vV st) (tSt (qgf K cv E ms mr) (kc 0 ms) own' fb))
  (hl:ms.length=ps.length:=by rfl) (hsub:∀ i∈UD 0 ms,i∈own':=by exact zk rfl) (hmr:mr=.sh\/∀ ds ρ,(fb (qw N ds))≠.ok (.nx,ρ):=by exact .inl rfl):DefOk P w K mg base cv (k+1) x ps ms mr (kB N ms fb):=by
 obtain ⟨f,fd,F,hm,hb⟩:=T
 exact ⟨f,fd,qgU F S hl hsub hmr (fun cdv A outer s H E hr=>hbody cdv f A outer s H E hr) fun _=>.inr rfl,hm,F.kp,hb⟩
variable {cv:Str->Value}
theorem DefOk.by {k:Nat} {G':List D->Out (D×List D)} (h:DefOk P w K mg base cv k x ps ms mr G) (e:∀ ds,Out.le (G' ds) (G ds)):DefOk P w K mg base cv k x ps ms mr G':=by
 obtain ⟨f,fd,F,r⟩:=h
 refine ⟨f,fd,F.imp fun vs H Q E ⟨F1,ds,sb,ar,nd,po⟩=>⟨F1,ds,sb,ar,nd,?_⟩,r⟩
 rcases e ds with z | z
 ·rw [z] at po; exact po.elim
 ·rw [<-z]; exact po
section
variable {fr:Sl->Out (List D×Sl)} {p:Pos} {k j:Nat}
theorem ql (F:DefOk X.prog X.w X.K X.mg X.base cv j x ps ms mr G) (hr:Room k X.A) (hj:j<=k) (hx:gC (CXk X.prog X.w) X C.E) (hg:Gl X x) (ha:PA X (e::es) (tAr C own as fr)) (hcv:C.cv=cv:=by rfl) (hK:C.K=X.K:=by rfl) (hms:ms=as.map JC:=by rfl) (hs:∀ i∈js as,i∈own:=by decide) (nd:(js as).Nodup:=by decide) (hf:frA as<=1:=by decide) (hio:∀ i∈C.ox,i∈own:=by exact zk rfl)
  (hdb:(x == ("__debug__":Str))=false:=by decide) (he:starEach (e::es) X.env=(false,eval e X.env)::starEach es X.env:=by exact kq rfl) (hpl:(backTo pos (starEach es X.env)).any (·.1)=false:=by exact gX rfl):PE X (.Call (.Name x p) (e::es) [] pos) (tE C own mr (qt as G fr)):=by
 subst hcv
 obtain ⟨f,fd,F,hm,hk,hb⟩:=F
 rw [<-hK] at F
 exact qck (by rw [<-hK]; exact F) (hr.mono hj) hg hm hk hb hx ha hms hs nd hf hio hdb he hpl
noncomputable def qek:D->Out D
 | .int i=>.ok (.int (-i))
 | _=>.bad
theorem qa6:UnD X C .sh (unaryOp .USub) qek:=by
 intro pins s σ H x v Q I rx h
 obtain ⟨F,dx,sb,tx,po⟩:=h
 cases dx <;> try exact po.elim
 obtain rfl:=tx.int
 exact qdM pins s σ H _ v Q I rx ⟨_,rfl,po _ F H sb .refl (.int _)⟩
end
noncomputable def yU:Option (Option D)->Bool
 | some (some (.lst _))=>true
 | _=>false
noncomputable def KZ (i:Nat) (g:List D->D->Out (List D)) (fe:Sl->Out (D×Sl)):Sl->Out (D×Sl):=fun ρ=>if yU ρ[i]?=true then (fe ρ).bind fun p=>match p.2[i]? with
 | some (some (.lst xs))=>match g xs p.1 with
  | .ok ys=>.ok (.non,p.2.set i (some (.lst ys)))
  | _=>.bad
 | _=>.bad
 else .bad
noncomputable def Wq (xs:List D) (d:D):Out (List D):=if xs.length < sizeLine then .ok (xs++[d]) else .bad
noncomputable def qfp (xs:List D):D->Out (List D)
 | .lst ys=>if xs.length+ys.length<=sizeLine then .ok (xs++ys) else .bad
 | .tup ys=>if xs.length+ys.length<=sizeLine then .ok (xs++ys) else .bad
 | _=>.bad
section
theorem Rep.write (rp:Rep K own F H σ ρ) (hi:i∈own) (ha:σ[i]?=some (some (V.ref a))) (ow:OwnIs K F (upd H a u) a d) :
  Rep K own F (upd H a u) σ (ρ.set i (some d))/\Chg (OA own σ) F H F (upd H a u):=by
 obtain ⟨d0,hd0⟩:=rp.opn i hi
 obtain ⟨a',e1,hF,o0⟩:=rp.ow i d0 hi hd0
 rw [ha] at e1; cases e1
 have hl:i < ρ.length:=(aA.mp hd0).1
 refine ⟨⟨fun b o e=>by rw [qx (qI e hF)]; exact rp.sub b o e,by simp [rp.len],fun j d' hj e=>?_,fun j d' hj e=>?_,fun j hj=>?_,rp.dis⟩,⟨fun b o e n=>?_,fun b e=>?_,Same.refl _,fun b e=>.inl e⟩⟩
 ·rw [aw (fun z=>hj (by rw [<-z]; exact hi))] at e
  exact rp.val j d' hj e
 ·by_cases q:j=i
  ·subst q
   rw [aH hl] at e
   cases e
   exact ⟨a,ha,hF,ow⟩
  ·rw [aw (bv q)] at e
   obtain ⟨b,h1,h2,h3⟩:=rp.ow j d' hj e
   have nb:b≠a:=fun z=>by subst z; exact q (rp.dis j i b hj hi h1 ha)
   exact ⟨b,h1,h2,h3.grow (Same.refl _) fun o z=>by rw [qx nb]; exact z⟩
 ·by_cases q:j=i
  ·subst q; exact ⟨d,aH hl⟩
  ·rw [aw (bv q)]; exact rp.opn j hj
 ·have nb:b≠a:=fun z=>n (by rw [z]; exact ⟨i,hi,ha⟩)
  rw [qx nb]; exact e
 ·by_cases q:b=a
  ·rw [q,qo]; simp
  ·rw [qx q]; exact e
theorem Wr {o:Option (Option D)} (h:yU o=true):∃ xs,o=some (some (.lst xs)):=by
 unfold yU at h
 split at h
 ·exact ⟨_,rfl⟩
 ·cases h
theorem GJ {g:List D->D->Out (List D)} {R:V->V->Hp->VK->Prop} {σ:St} {H:Hp} {Q:VK} (ho:i∈own) (hm:m≠.any)
  (hR:∀ (a:Addr) (xs:List V) (ds ys:List D) (v:V) (d:D) (F H:Hp),Same F H->H a=some (.lst xs)->F a=none->IsL C.K F xs ds->Is C.K F v d->g ds d=.ok ys->(∀ zs,IsL C.K F zs ys->Q .non (upd H a (.lst zs)))->R (.ref a) v H Q)
  (h:tE C own .sh (KZ i g fe) σ H Q):∃ a xs,σ[i]?=some (some (V.ref a))/\H a=some (.lst xs)/\tE C own .sh fe σ H fun v H1=>R (.ref a) v H1 Q:=by
 obtain ⟨F,ρ,rp,h⟩:=h
 unfold KZ at h
 by_cases q:yU ρ[i]?=true
 ·rw [if_pos q] at h
  obtain ⟨ds,hd⟩:=Wr q
  obtain ⟨a,h1,h2,xs,h3,h4⟩:=rp.ow i _ ho hd
  refine ⟨a,xs,h1,h3,F,ρ,rp,Po.bind h fun v F1 H1 d ρ1 rp1 c1 mo1 po=>?_⟩
  cases q1:ρ1[i]? with
  | none=>simp only [q1] at po; exact po.elim
  | some o=>
   cases o with
   | none=>simp only [q1] at po; exact po.elim
   | some dd=>
    simp only [q1] at po
    cases dd with
    | lst es=>
     simp only at po
     cases q2:g es d with
     | ok ys=>
      simp only [q2] at po
      obtain ⟨a',e1,e2,vs,e3,e4⟩:=rp1.ow i _ ho q1
      rw [h1] at e1; cases e1
      refine hR a vs es ys v d F1 H1 rp1.sub e3 e2 e4 mo1 q2 fun zs iz=>?_
      obtain ⟨r2,c2⟩:=rp1.write (u:=.lst zs) (d:=.lst ys) ho h1 ⟨zs,qo,iz⟩
      exact po .non F1 _ r2 c2 .non
     | exc c o=>simp only [q2] at po; exact po.elim
     | bad=>simp only [q2] at po; exact po.elim
    | _=>exact po.elim
 ·rw [if_neg q] at h; exact h.elim
theorem ym {px apos cpos:Pos} (hK:C.K=X.K) (hN:X.N[i]?=some x) (hv:Vis X.env.scope x) (ho:i∈own) (he:PE X e (tE C own m fe)) (hm:m≠.any:=by decide)
  (hd:(x == ("__debug__":Str))=false:=by decide) (hcd:(x == ("__classdict__":Str))=false:=by decide)
  (hbase:attributeBase (.Name x px) "append" X.env (eval (.Name x px) X.env)=eval (.Name x px) X.env:=by rfl)
  (hfew:((backTo cpos (starEach [e] X.env)).all (fun x=>!x.1)&&(backToKw cpos (keywordEach [] X.env)).all (fun x=>x.1.isSome)
   && decide ([e].length+([]:List Keyword).length+(if ([]:List Keyword).isEmpty then 0 else 1) < 30))=true:=by exact yc rfl)
  (hline:(apos.endLine == cpos.line)=true:=by rfl) (hs:starEach [e] X.env=[(false,eval e X.env)]:=by exact qR rfl) :
  PE X (.Call (.Attribute (.Name x px) "append" apos) [e] [] cpos) (tE C own .sh (KZ i Wq fe)):=by
 refine jR (Gn dw PySem.F.slot_list_append PySem.F.type_list_append Jo (uW hN hv hd hcd) (qV (ux he hm) jM hs) hbase hfew hline hs rfl) fun σ H Q h=>?_
 have hR:∀ (a:Addr) (xs:List V) (ds ys:List D) (v:V) (d:D) (F H:Hp),Same F H->H a=some (.lst xs)->F a=none->IsL C.K F xs ds->Is C.K F v d->Wq ds d=.ok ys->(∀ zs,IsL C.K F zs ys->Q .non (upd H a (.lst zs)))->KJ (.ref a) [v] H Q:=fun a xs ds ys v d F H sb ea ef ix iv eg k=>by
  unfold Wq at eg
  split at eg
  ·cases eg
   exact ⟨a,xs,v,rfl,rfl,ea,by rw [ix.length]; assumption,k _ (ix.append (.cons iv .nil))⟩
  ·cases eg
 obtain ⟨a,xs,h1,h2,k⟩:=GJ (R:=fun x v H Q=>KJ x [v] H Q) ho hm hR h
 exact ⟨.ref a,h1,.inl ⟨rfl,xs,.inl (.inl h2)⟩,k⟩
theorem Xe {px apos cpos:Pos} (hN:X.N[i]?=some x) (hv:Vis X.env.scope x) (ho:i∈own) (he:PE X e (tE C own .fr fe))
  (hd:(x == ("__debug__":Str))=false:=by decide) (hcd:(x == ("__classdict__":Str))=false:=by decide)
  (hbase:attributeBase (.Name x px) "extend" X.env (eval (.Name x px) X.env)=eval (.Name x px) X.env:=by rfl)
  (hfew:((backTo cpos (starEach [e] X.env)).all (fun x=>!x.1)&&(backToKw cpos (keywordEach [] X.env)).all (fun x=>x.1.isSome)
   && decide ([e].length+([]:List Keyword).length+(if ([]:List Keyword).isEmpty then 0 else 1) < 30))=true:=by exact yc rfl)
  (hline:(apos.endLine == cpos.line)=true:=by rfl) (hs:starEach [e] X.env=[(false,eval e X.env)]:=by exact qR rfl) :
  PE X (.Call (.Attribute (.Name x px) "extend" apos) [e] [] cpos) (tE C own .sh (KZ i qfp fe)):=by
 refine jR (Gn dw PySem.F.slot_list_extend PySem.F.type_list_extend Yy (uW hN hv hd hcd) (qV he jM hs) hbase hfew hline hs rfl) fun σ H Q ⟨F,ρ,rp,h⟩=>?_
 unfold KZ at h
 by_cases q:yU ρ[i]?=true
 ·rw [if_pos q] at h
  obtain ⟨ds,hd⟩:=Wr q
  obtain ⟨a,h1,h2,xs,h3,h4⟩:=rp.ow i _ ho hd
  refine ⟨.ref a,h1,.inl ⟨rfl,xs,.inl (.inl h3)⟩,F,ρ,rp,Po.bind h fun v F1 H1 d ρ1 rp1 c1 mo1 po=>?_⟩
  obtain ⟨b,rfl,hb0,hbF,ob⟩:=mo1
  cases q1:ρ1[i]? with
  | none=>simp only [q1] at po; exact po.elim
  | some o=>
   cases o with
   | none=>simp only [q1] at po; exact po.elim
   | some dd=>
    simp only [q1] at po
    cases dd with
    | lst es=>
     simp only at po
     obtain ⟨a',e1,e2,vs,e3,e4⟩:=rp1.ow i _ ho q1
     rw [h1] at e1; cases e1
     cases d with
     | lst ys=>
      obtain ⟨zs,hz,iz⟩:=ob
      have po:Po C own .sh σ F1 H1 (match (if es.length+ys.length<=sizeLine then .ok (es++ys) else .bad:Out (List D)) with | .ok ys=>.ok (.non,ρ1.set i (some (.lst ys))) | _=>.bad) Q:=po
      by_cases qz:es.length+ys.length<=sizeLine
      ·rw [if_pos qz] at po
       refine ⟨a,b,vs,zs,rfl,rfl,e3,hz,by rw [e4.length,iz.length]; exact qz,?_⟩
       obtain ⟨r2,c2⟩:=rp1.write (u:=.lst (vs++zs)) (d:=.lst (es++ys)) ho h1 ⟨_,qo,e4.append iz⟩
       exact po .non F1 _ r2 c2 .non
      ·rw [if_neg qz] at po; exact po.elim
     | dct ys=>
      exact po.elim
     | ins _ _=>exact po.elim
     | at_ _ _=>exact po.elim
     | _=>exact ob.elim
    | _=>exact po.elim
 ·rw [if_neg q] at h; exact h.elim
end
noncomputable def scB (names:List (Str×NameKind)) (scope:Scope):Bool:=decide (scope.kind=.function)&&scope.names.all fun y=>decide (y.2≠.cell)&&(!decide (y.2=.local)||decide (scope.names.lookup y.1=some .local)) &&
 (!decide (y.2=.free)||((decide (names.lookup y.1=some .cell)||decide (names.lookup y.1=some .free))&&decide (scope.names.lookup y.1=some .free)))
variable {names:List (Str×NameKind)}
theorem vf (hX:X.env.scope.names=names) (b:scB names scope=true):ScOk X scope:=by
 subst hX
 unfold scB at b
 rw [aO,bp] at b
 obtain ⟨b0,b1⟩:=b
 refine ⟨of_decide_eq_true b0,fun y hy=>?_,fun y hy e=>?_,fun y hy e=>?_,fun y hy e=>?_⟩
 all_goals
  have q:=b1 y hy
  simp only [aO,Bool.or_eq_true,Bool.not_eq_true',decide_eq_true_eq,decide_eq_false_iff_not] at q
 ·exact q.1.1
 ·exact q.1.2.resolve_left fun z=>z e
 ·exact (q.2.resolve_left fun z=>z e).1
 ·exact (q.2.resolve_left fun z=>z e).2
noncomputable def qgV (names:List (Str×NameKind)) (N:List Str) (scope:Scope) (Nc:List Str) (nt:Nat) (cap:List Nat):Bool:=decide cap.Nodup&&decide (Nc.length=nt+cap.length)&&(aF cap.length).all fun j=>match cap[j]? with
 | some k=>match Nc[nt+j]? with
  | some x=>decide (N[k]?=some x)&&(((decide (names.lookup x=some .local)||decide (names.lookup x=some .cell)||decide (names.lookup x=some .free))&&decide ((x,bA)∈scope.names))||scope.names.all fun y=>decide (y.1≠x))
  | none=>false
 | none=>false
theorem jG {Nc:List Str} (hX:X.env.scope.names=names) (hN:X.N=N) (b:qgV names N scope Nc nt cap=true):CapOk X scope Nc nt cap:=by
 subst hX hN
 unfold qgV at b
 rw [aO,aO,bp] at b
 obtain ⟨⟨b0,b1⟩,b2⟩:=b
 refine ⟨of_decide_eq_true b0,of_decide_eq_true b1,fun j k hj=>?_⟩
 have q:=b2 j (aL.mpr (aA.mp hj).1)
 rw [hj] at q
 cases e:Nc[nt+j]? with
 | none=>simp only [e] at q; cases q
 | some x=>
  simp only [e,aO,Bool.or_eq_true,decide_eq_true_eq] at q
  refine ⟨x,rfl,q.1,?_⟩
  rcases q.2 with ⟨z,q2⟩ | z
  ·refine .inl ⟨?_,q2⟩
   rcases z with (z | z) | z
   ·exact .inl z
   ·exact .inr (.inl z)
   ·exact .inr (.inr z)
  ·refine .inr fun k' hk'=>?_
   rw [bp] at z
   exact of_decide_eq_true (z (x,k') hk') rfl
theorem xH:gC (CXk P w) X (fun _ _ _=>False):=fun _ _ _ _ _ _ _ h=>by
 obtain ⟨_,_,_,_,_,_,_,_,_,_,_,_,_,_,hE⟩:=h
 exact hE.elim
noncomputable def qgg (f:Sl->Out (D×Sl)):Sl->Out (D×Sl):=fun ρ=>(je f ρ).bind fun p=>.ok (.bl (!p.1),p.2)
section
variable {i:Int}
theorem yn (h:∃ t,X.mg x=some (.int i t)) (hg:Gl X x) (hd:(x == ("__debug__":Str))=false:=by decide):PE X (.Name x pos) (tE C own .sh (dC (.int i))):=by
 obtain ⟨t,h⟩:=h
 exact qb6 (v:=.int i) hg h ⟨t,rfl⟩ (fun _=>.int i) hd
end
section
variable {a b:Expr}
noncomputable def yo:D->Out D
 | .lst xs=>.ok (.tup xs)
 | .tup xs=>.ok (.tup xs)
 | _=>.bad
noncomputable def qcp:D->Out D
 | .lst xs=>.ok (.lst xs)
 | .tup xs=>.ok (.lst xs)
 | _=>.bad
theorem xS (hK:C.K=X.K):JB X C .sh (.type "tuple") yo:=by
 intro pins s σ H xs us Q I r h
 obtain ⟨x,F,dx,rfl,sb,tx,po⟩:=h
 cases dx with
 | lst ds=>
  obtain ⟨p,vs,rfl,hq,t⟩:=tx.lst sb
  refine ya pins s σ H _ us Q I r ⟨p,vs,rfl,.inl ⟨by rw [<-hK]; exact hq,fun l hl=>?_⟩⟩
  obtain ⟨s2,c2⟩:=yQ (u:=.tup vs) sb hl
  exact po _ _ _ s2 c2 (.tup (.inl (.inl qo)) (t.mono c2.grow))
 | tup ds=>
  rcases tx with tx | ⟨_,_,tx⟩
  ·have tx0:=tx
   cases tx with
   | tup hq t=>exact ya pins s σ H _ us Q I r ⟨_,_,rfl,.inr ⟨by rw [<-hK]; exact qD sb hq,po _ F H sb .refl tx0⟩⟩
  ·exact tx.elim
 | _=>exact po.elim
theorem qcq (hK:C.K=X.K):JB X C .fr (.type "list") qcp:=by
 intro pins s σ H xs us Q I r h
 obtain ⟨x,F,dx,rfl,sb,tx,po⟩:=h
 cases dx with
 | lst ds=>
  obtain ⟨p,vs,rfl,hq,t⟩:=tx.lst sb
  refine xr pins s σ H _ us Q I r ⟨p,vs,rfl,.inl (by rw [<-hK]; exact hq),fun l hl=>?_⟩
  obtain ⟨s2,c2,hF⟩:=vW (u:=.lst vs) sb hl
  exact po _ _ _ s2 c2 ⟨l,rfl,hl,hF,vs,qo,t⟩
 | tup ds=>
  obtain ⟨p,vs,rfl,hq,t⟩:=tx.tup sb
  refine xr pins s σ H _ us Q I r ⟨p,vs,rfl,.inr (by rw [<-hK]; exact hq),fun l hl=>?_⟩
  obtain ⟨s2,c2,hF⟩:=vW (u:=.lst vs) sb hl
  exact po _ _ _ s2 c2 ⟨l,rfl,hl,hF,vs,qo,t⟩
 | _=>exact po.elim
def Xf (X:Cx) (C:Ct) (m:Mo) (f:Value) (g:D->D->Out D):Prop:=uw X f (fun xs H Q=>∃ x y F dx dy,xs=[x,y]/\Same F H/\TopIs C.K F H x dx/\TopIs C.K F H y dy/\PoV C m F H (g dx dy) Q)
theorem GK {Q:VK} {g:D->D->Out D} (hma:ma≠.any) (h:tE C own m (d2 g fa fb) σ H Q):Gk (tE C own ma fa) (Gk (tE C own mb fb) qf1) σ H fun xs H1=>∃ x y F dx dy,xs=[x,y]/\Same F H1/\TopIs C.K F H1 x dx/\TopIs C.K F H1 y dy/\PoV C m F H1 (g dx dy) Q:=by
 obtain ⟨F,ρ,rp,h⟩:=Js (mb:=mb) hma h
 refine ⟨F,ρ,rp,?_⟩
 cases q:fa ρ with
 | ok p=>
  rw [q] at h
  obtain ⟨d,ρ1⟩:=p
  intro v F1 H1 rp1 c1 mo1
  obtain ⟨F2,ρ2,rp2,h2⟩:=h v F1 H1 rp1 c1 mo1
  refine ⟨F2,ρ2,rp2,?_⟩
  cases q2:fb ρ2 with
  | ok p=>
   rw [q2] at h2
   obtain ⟨d',ρ3⟩:=p
   intro w F3 H3 rp3 c3 mo3
   obtain ⟨F4,dx,dy,z⟩:=h2 w F3 H3 rp3 c3 mo3
   exact ⟨v,w,F4,dx,dy,rfl,z⟩
  | exc c=>rw [q2] at h2; exact h2
  | bad=>rw [q2] at h2; exact h2.elim
 | exc c=>rw [q] at h; exact h
 | bad=>rw [q] at h; exact h.elim
theorem JI {id:String} {p:Pos} {g:D->D->Out D} (hc:Xf X C m (.builtin id) g) (hg:Gl X x) (hm:X.mg x=none) (hv:bootBuiltins x=some (.builtin id)) (ha:PE X a (tE C own ma fa)) (hb:PE X b (tE C own mb fb)) (hma:ma≠.any:=by decide) (hn:x ≠ "__name__":=by decide) (hdb:(x == ("__debug__":Str))=false:=by decide)
  (h1:starEach [a,b] X.env=(false,eval a X.env)::starEach [b] X.env:=by rfl) (h2:starEach [b] X.env=[(false,eval b X.env)]:=by exact qR rfl):PE X (.Call (.Name x p) [a,b] [] pos) (tE C own m (d2 g fa fb)):=
 jR (uZ hc hg hm hv (qV ha (qV hb jM h2) h1) hn hdb (by rw [h1]) (by rw [h2]; rfl)) fun _ _ _ h=>GK hma h
noncomputable def qfq:D->D->Out D:=uy fun i j=>.ok (.int (if j > i then j else i))
noncomputable def qfr:D->D->Out D:=uy fun i j=>.ok (.int (if j < i then j else i))
theorem qel (hc:X.calm=true):Xf X C .sh (.builtin "max") qfq:=by
 intro pins s σ H xs us Q I r h
 obtain ⟨x,y,F,dx,dy,rfl,sb,tx,ty,po⟩:=h
 cases dx <;> try exact po.elim
 cases dy <;> try exact po.elim
 obtain rfl:=tx.int
 obtain rfl:=ty.int
 exact Yt hc pins s σ H _ us Q I r ⟨_,_,rfl,po _ F H sb .refl (.int _)⟩
theorem qem (hc:X.calm=true):Xf X C .sh (.builtin "min") qfr:=by
 intro pins s σ H xs us Q I r h
 obtain ⟨x,y,F,dx,dy,rfl,sb,tx,ty,po⟩:=h
 cases dx <;> try exact po.elim
 cases dy <;> try exact po.elim
 obtain rfl:=tx.int
 obtain rfl:=ty.int
 exact Yu hc pins s σ H _ us Q I r ⟨_,_,rfl,po _ F H sb .refl (.int _)⟩
noncomputable def ke (a T:String):Option Bool:=if (fB a == fB T)=true then some true else if PySem.W.kitMeta T=true then (fastBuiltinMro a).map (·.contains (.type T)) else none
theorem GL (K:Frag) (a T:String):b8 K (.type a) (.type T)=ke a T:=rfl
noncomputable def tyN:D->Option String
 | .non=>some "NoneType"
 | .bl _=>some "bool"
 | .int _=>some "int"
 | .str _=>some "str"
 | .tup _=>some "tuple"
 | .lst _=>some "list"
 | .dct _=>some "dict"
 | _=>none
noncomputable def gk (T:String) (d:D):Out D:=match tyN d with
 | some a=>match ke a T with
  | some b=>.ok (.bl b)
  | none=>.bad
 | none=>.bad
theorem GM (hK:C.K=X.K):uw X (.builtin "isinstance") (fun xs H Q=>∃ x F d,xs=[x,.ty T]/\Same F H/\TopIs C.K F H x d/\PoV C .sh F H (gk T d) Q):=by
 intro pins s σ H xs us Q I r h
 obtain ⟨x,F,d,rfl,sb,tx,po⟩:=h
 obtain ⟨u,c,rfl,ru,rc⟩:=qbV r
 cases rc
 cases q:tyN d with
 | none=>unfold gk at po; rw [q] at po; exact po.elim
 | some a=>
  cases q2:ke a T with
  | none=>unfold gk at po; rw [q] at po; simp only [q2] at po; exact po.elim
  | some b=>
   have po:PoV C .sh F H (.ok (.bl b)) Q:=by unfold gk at po; rw [q] at po; simp only [q2] at po; exact po
   have fin:∀ tk,EP X pins σ Q (.bool b) { s with toks:=tk }:=fun tk=>⟨.bl b,H,I.tok tk,rfl,po _ F H sb .refl (.bl b)⟩
   have e:b8 X.K (.type a) (.type T)=some b:=(GL X.K a T).trans q2
   cases d with
   | non=>obtain rfl:=tx.non; cases ru; cases q; exact cz PySem.W.kitx_none I.kIn cW e (fun z=>nomatch z) fin
   | bl y=>obtain rfl:=tx.bl; cases ru; cases q; exact cz PySem.W.kitx_bool I.kIn cW e (fun z=>nomatch z) fin
   | int y=>obtain rfl:=tx.int; obtain ⟨t,rfl⟩:=ru; cases q; exact cz PySem.W.kitx_int I.kIn cW e (fun z=>nomatch z) fin
   | str y=>obtain ⟨rfl,_⟩:=tx.str; obtain ⟨t,rfl⟩:=ru; cases q; exact cz PySem.W.kitx_str I.kIn cW e (fun z=>nomatch z) fin
   | tup y=>
    obtain ⟨p,vs,rfl,hq,t⟩:=tx.tup sb
    cases ru; cases q
    obtain ⟨its,_,⟨o,h1,h2,_⟩,_⟩:=I.tuple (show SqT X.K H p vs by rw [<-hK]; exact hq)
    exact cz PySem.W.kitx_tuple I.kIn ⟨o,h1,h2⟩ e (fun z=>nomatch z) fin
   | lst y=>
    obtain ⟨p,vs,rfl,hq,t⟩:=tx.lst sb
    cases ru; cases q
    obtain ⟨its,_,⟨o,n,h1,h2,_⟩,_⟩:=I.list (show SqL X.K H p vs by rw [<-hK]; exact hq)
    exact cz PySem.W.kitx_list I.kIn ⟨o,h1,h2⟩ e (fun z=>nomatch z) fin
   | dct y=>
    obtain ⟨p,vs,rfl,hq,t⟩:=tx.dct sb
    cases ru; cases q
    obtain ⟨_,_,ws,_,o,es,ep,h1,h2,_⟩:=(show ObjOk X.prog X.w H s.heap p (.dK vs) from I.hok p _ hq)
    exact cz PySem.W.kitx_dict I.kIn ⟨o,h1,h2.1⟩ e (fun z=>nomatch z) fin
   | _=>cases q
theorem zq {tn:Str} {p tp:Pos} (hK:C.K=X.K) (hg:Gl X "isinstance") (hm:X.mg "isinstance"=none) (hv:bootBuiltins "isinstance"=some (.builtin "isinstance")) (ht:Gl X tn) (htm:X.mg tn=none) (htv:bootBuiltins tn=some (.type T)) (ha:PE X a (tE C own ma fa)) (hn:tn ≠ "__name__":=by decide) (hdb:(tn == ("__debug__":Str))=false:=by decide)
  (h1:starEach [a,.Name tn tp] X.env=(false,eval a X.env)::starEach [.Name tn tp] X.env:=by rfl) (h2:starEach [.Name tn tp] X.env=[(false,eval (.Name tn tp) X.env)]:=by rfl):PE X (.Call (.Name "isinstance" p) [a,.Name tn tp] [] pos) (tE C own .sh (d1 (gk T) fa)):=by
 refine jR (uZ (GM (T:=T) hK) hg hm hv (qV ha (qV (qbK (v:=.ty T) ht htm htv rfl hn hdb) jM h2) h1) (by decide) (by decide) (by rw [h1]) (by rw [h2]; rfl)) fun σ H Q h=>?_
 obtain ⟨F,ρ,rp,h⟩:=Gx (ma:=ma) h
 refine ⟨F,ρ,rp,?_⟩
 cases q:fa ρ with
 | ok p=>
  rw [q] at h
  obtain ⟨d,ρ1⟩:=p
  intro v F1 H1 rp1 c1 mo1
  obtain ⟨F2,dx,z⟩:=h v F1 H1 rp1 c1 mo1
  exact ⟨v,F2,dx,rfl,z⟩
 | exc c=>rw [q] at h; exact h
 | bad=>rw [q] at h; exact h.elim
noncomputable def xw:List D->Option (List Bool)
 | []=>some []
 | .bl b::ds=>(xw ds).map (b::·)
 | _::_=>none
noncomputable def GN:D->Out D
 | .lst ds=>match xw ds with
  | some bs=>.ok (.bl (bs.all id))
  | none=>.bad
 | _=>.bad
theorem Ws:∀ {vs:List V} {us:List Value} {ds:List D} {bs:List Bool},IsL K F vs ds->Vals vs us->xw ds=some bs->us=bs.map cP
 | _,_,_,_,.nil,.nil,e=>by cases e; rfl
 | _,_,_,_,.cons (d:=d) h t,.cons r rs,e=>by
  cases d with
  | bl b=>
   unfold xw at e
   obtain ⟨bs',e1,e2⟩:=bb.mp e
   subst e2
   cases h
   cases r
   rw [Ws t rs e1]; rfl
  | _=>cases e
theorem Wt (hK:C.K=X.K) (hc:X.calm=true):JB X C .sh (.builtin "all") GN:=by
 intro pins s σ H xs us Q I r h
 obtain ⟨x,F,dx,rfl,sb,tx,po⟩:=h
 cases dx <;> try exact po.elim
 rename_i ds
 obtain ⟨p,vs,rfl,hq,t⟩:=tx.lst sb
 obtain ⟨u,rfl,ru⟩:=uG r
 cases ru
 unfold GN at po
 cases q:xw ds with
 | none=>simp only [q] at po; exact po.elim
 | some bs=>
  simp only [q] at po
  obtain ⟨its,rv,pl,hz⟩:=I.list (show SqL X.K H p vs by rw [<-hK]; exact hq)
  have eb:=Ws t rv q
  subst eb
  have hp:p < s.heap.objs.size:=let ⟨o,h1,_⟩:=pl.isList; ay h1
  refine call_all_walk (wpAny_pyIter_list pl.isList ?_)
  have W:Walks X.prog X.w X.A.in1 s.heap.objs.size [s.heap.objs.size,p] [s.heap.objs.size] (bs.map cP).toArray.size (fun i v=>(bs.map cP).toArray[i]?=some v) (fun i h=>h.IsListIter s.heap.objs.size p i/\h.IsList p (bs.map cP).toArray):=fL (A:=X.A.in1) (show X.A.in1.handled=none from I.ok.hd hc) s.heap.objs.size p (aE hp) _
  have st:(s.heap.push { cls:=.type "list_iterator",data:=.fields #[.ref p,.int 0 0] }).IsListIter s.heap.objs.size p 0/\(s.heap.push { cls:=.type "list_iterator",data:=.fields #[.ref p,.int 0 0] }).IsList p (bs.map cP).toArray:=⟨⟨_,ao _ rfl,rfl,rfl⟩,let ⟨o,h1,h2⟩:=pl.isList; ⟨o,ae _ h1,h2⟩⟩
  refine ⟨_,_,_,_,_,_,fun i=>(bs[i]?).getD false,rfl,W,st,fun i v s' Q' E' hP hQ'=>?_,fun h' tk kp=>?_⟩
  ·have hP:(bs.map cP).toArray[i]?=some v:=hP
   rw [dP,aG] at hP
   cases qi:bs[i]? with
   | none=>rw [qi] at hP; cases hP
   | some b=>
    have hQ2:Q' ((bs[i]?).getD false) s':=hQ'
    rw [qi] at hP hQ2
    cases hP
    exact wpAny_truthy_bool hQ2
  ·have e:(aF (bs.map cP).toArray.size).all (fun i=>(bs[i]?).getD false)=bs.all id:=by
    rw [aq,au,Bool.eq_iff_iff,bp,bp]
    constructor
    ·intro h b hb
     obtain ⟨i,hi,e⟩:=dY.mp hb
     have:=h i (aL.mpr hi)
     rw [af hi,e] at this
     exact this
    ·intro h i hi
     have hi:=aL.mp hi
     rw [af hi]
     exact h _ (bq hi)
   rw [e]
   refine ⟨.bl (bs.all id),H,?_,rfl,po _ F H sb .refl (.bl _)⟩
   have k2:∀ b o,s.heap.get? b=some o->h'.get? b=some o:=fun b o eb=>kp b o (by simp; exact aE (ay eb)) (ae _ eb)
   exact I.kept (t':=tk) k2
end
noncomputable def vK (idx:List Nat) (xs:List α):List α:=idx.filterMap fun k=>xs[k]?
theorem IsL.pick (h:IsL K F vs ds):∀ (idx:List Nat),IsL K F (vK idx vs) (vK idx ds)
 | []=>.nil
 | k::idx=>by
  unfold vK
  rw [bM,bM]
  cases e:vs[k]? with
  | none=>
   have e2:ds[k]?=none:=bI.mpr (by rw [<-h.length]; exact bI.mp e)
   rw [e2]
   exact IsL.pick h idx
  | some v=>
   obtain ⟨d,e2,i⟩:=h.get e
   rw [e2]
   exact .cons i (IsL.pick h idx)
theorem zr {us:List Value} (h:Vals vs us):∀ (idx:List Nat),Vals (vK idx vs) (vK idx us)
 | []=>.nil
 | k::idx=>by
  unfold vK
  rw [bM,bM]
  cases e:vs[k]? with
  | none=>rw [h.none_of e]; exact zr h idx
  | some v=>
   obtain ⟨u,e2,r⟩:=h.get e
   rw [e2]
   exact .cons r (zr h idx)
theorem GO (xs:List α):vK (aF xs.length) xs=xs:=by
 unfold vK
 have:=PySem.W.krv_all xs.toArray
 simpa using this
noncomputable def JJ (n:Nat) (lo hi:Option Int) (st:Int):List Nat:=(aF (c9 (bu lo hi st n).1 (bu lo hi st n).2 st)).map fun (k:Nat)=>((bu lo hi st n).1+(k:Int) * st).toNat
noncomputable def gG (x:Str) (lo hi:Option Int) (st:Int):Str:=if (st == 1&&(cU lo hi st x.length).length == x.length)=true then x else ⟨((cU lo hi st x.length).filterMap (x.cps[·]?)).toArray⟩
noncomputable def slD (lo hi st:Option Int):D->Out D
 | .tup xs=>if st.getD 1≠0/\(vK (JJ xs.length lo hi (st.getD 1)) xs).length<=sizeLine then .ok (.tup (vK (JJ xs.length lo hi (st.getD 1)) xs)) else .bad
 | .str x=>if st.getD 1≠0/\(gG x lo hi (st.getD 1)).length<=sizeLine then .ok (.str (gG x lo hi (st.getD 1))) else .bad
 | _=>.bad
def qgW (X:Cx) (r:V->Option Int->Option Int->Option Int->Hp->VK->Prop):Prop:=
 ∀ (pins:List (Addr×Obj)) (s:Shared) (σ:St) (H:Hp) (x:V) (v vl vu vk:Value) (lo hi st:Option Int) (sl:Addr) (Q:VK),Inv X pins σ H s->RelV x v->s.heap.IsSliceOf sl vl vu vk->IsPart vl lo->IsPart vu hi->IsPart vk st->r x lo hi st H Q ->
  ∃ T id,typeLookup (.type T) "__getitem__"=pure (some (.builtin id))/\s.TypeIs v T/\wpAny (model X.prog X.w) X.A (getItem v (.ref sl)) (EP X pins σ Q) X.xe s
variable {sl:Addr}
section
variable {prog:Program}
theorem gn {vl vu vk:Value} {lo hi st:Option Int} {n:Nat} {Q:Int×Int×Nat->Shared->Prop} (hs:s.heap.IsSliceOf sl vl vu vk) (pl:IsPart vl lo) (pu:IsPart vu hi) (pk:IsPart vk st) (h0:st.getD 1≠0)
  (h:Q ((bu lo hi (st.getD 1) n).1,st.getD 1,c9 (bu lo hi (st.getD 1) n).1 (bu lo hi (st.getD 1) n).2 (st.getD 1)) s):wpAny (model prog w) A (Builtin.Slice.sliceApplied (.ref sl) (pure (n:Int))) Q E s:=by
 obtain ⟨os,hos,hcs,hds⟩:=id hs
 unfold Builtin.Slice.sliceApplied Builtin.Slice.sliceFields
 refine wpAny_bind (wpAny_bind (wpAny_field hos hds (x:=vl) rfl (wpAny_bind (wpAny_field hos hds (x:=vu) rfl (wpAny_bind (wpAny_field hos hds (x:=vk) rfl (wpAny_pure ?_)))))))
 refine wpAny_bind (HT.slicePart_ pk ?_)
 show wpAny _ _ (if (st.getD 1 == 0)=true then _ else _) _ _ s
 rw [if_neg (by simpa using h0)]
 refine wpAny_bind (HT.slicePart_ pl (wpAny_bind (HT.slicePart_ pu (wpAny_bind (wpAny_pure ?_)))))
 exact wpAny_pure h
theorem zt {t:Addr} {items:Array Value} {vl vu vk:Value} {lo hi st:Option Int} {Q:Value->Shared->Prop} (ht:IsTup s.heap t items) (hs:s.heap.IsSliceOf sl vl vu vk) (pl:IsPart vl lo) (pu:IsPart vu hi) (pk:IsPart vk st) (h0:st.getD 1≠0)
  (hw:JJ items.size lo hi (st.getD 1)=aF items.size->Q (.ref t) s)
  (h:Q (.ref s.heap.objs.size) { s with heap:=s.heap.push { cls:=.type "tuple",data:=.seq (vK (JJ items.size lo hi (st.getD 1)) items.toList).toArray } })
  (hsz:(vK (JJ items.size lo hi (st.getD 1)) items.toList).length<=sizeLine):wpAny (model prog w) A (getItem (.ref t) (.ref sl)) Q E s:=by
 obtain ⟨os,hos,hcs,hds⟩:=id hs
 have hTs:s.TypeIs (.ref sl) "slice":=⟨os,hos,hcs⟩
 unfold getItem
 try with_reducible refine wpAny_holding ?_
 first | refine wpAny_bind (wpAny_pure ?_) | skip
 refine wpAny_bind (wpAny_sequenceKey ht.typeIs (by decide) ?_)
 refine wpAny_bind (wpAny_callSpecial?_slot (name:=aP "__getitem__") ht.typeIs cJ
  (wpAny_call_entry cJ ht.typeIs entry_tuple_getitem ?_ (args_tuple_getitem _ _)))
 show wpAny _ _ (Builtin.Tuple.tupleItemsOf (.ref t) >>= _) _ _ s
 refine wpAny_bind (tupleItemsOf_ ht ?_)
 refine wpAny_bind (wpAny_typeOf hTs ?_)
 rw [if_pos (by decide)]
 refine wpAny_bind (gn hs pl pu pk h0 ?_)
 generalize hA:bu lo hi (st.getD 1) items.size=A0
 generalize hN:c9 A0.1 A0.2 (st.getD 1)=N0
 have ep:vK (JJ items.size lo hi (st.getD 1)) items.toList=(aF N0).filterMap fun (k:Nat)=>items[(A0.1+(k:Int) * st.getD 1).toNat]?:=by
  unfold vK JJ
  rw [hA,hN,List.filterMap_map]
  congr 1
  funext k
  simp
 rw [ep] at h hsz
 by_cases hc:(A0.1 == 0&&st.getD 1 == 1&&N0 == items.size)=true
 ·have hc':=hc
  rw [aO,aO] at hc'
  have q1:A0.1=0:=eq_of_beq hc'.1.1
  have q2:st.getD 1=1:=eq_of_beq hc'.1.2
  have q3:N0=items.size:=eq_of_beq hc'.2
  have whole:JJ items.size lo hi (st.getD 1)=aF items.size:=by
   unfold JJ
   rw [hA,hN,q1,q2,q3]
   have e:(fun (k:Nat)=>((0:Int)+(k:Int) * 1).toNat)=id:=by
    funext k
    show ((0:Int)+(k:Int) * 1).toNat=k
    omega
   rw [e,List.map_id]
  have hQ:=hw whole
  show wpAny _ _ (if (A0.1 == 0&&st.getD 1 == 1&&N0 == items.size)=true then _ else _) _ _ s
  rw [if_pos hc]
  unfold Builtin.Tuple.tupleIsExact
  refine wpAny_bind (wpAny_bind (wpAny_typeOf ht.typeIs (wpAny_pure ?_)))
  rw [if_pos (by decide)]
  exact wpAny_bind (wpAny_rule (wpAny_pure ⟨_,rfl,wpAny_pure hQ⟩))
 ·show wpAny _ _ (if (A0.1 == 0&&st.getD 1 == 1&&N0 == items.size)=true then _ else _) _ _ s
  rw [if_neg hc]
  have htake:sizeOk (.seq ((aF N0).filterMap fun (k:Nat)=>items[(A0.1+(k:Int) * st.getD 1).toNat]?).toArray):=by
   show (((aF N0).filterMap fun (k:Nat)=>items[(A0.1+(k:Int) * st.getD 1).toNat]?).toArray).size<=sizeLine
   rw [aq]; exact hsz
  first
   | exact wpAny_bind (m:=cG _) (wpAny_newObj_type (wpAny_pure ⟨_,rfl,wpAny_pure h⟩) htake)
   | exact wpAny_bind (m:=cG _) (wpAny_newObj_type (wpAny_bind (wpAny_pure (wpAny_pure ⟨_,rfl,wpAny_pure h⟩))) htake)
   | exact wpAny_bind (wpAny_bind (m:=cG _) (wpAny_newObj_type (wpAny_pure (wpAny_pure ⟨_,rfl,wpAny_pure h⟩)) htake))
   | exact wpAny_bind (wpAny_bind (m:=cG _) (wpAny_newObj_type (wpAny_pure ⟨_,rfl,wpAny_pure h⟩) htake))
end
def PoO (C:Ct) (own:List Nat) (σ:St) (F H:Hp) (r:Out (Option Int×Sl)) (Q:Option Int->Hp->Prop):Prop:=match r with
 | .ok (b,ρ')=>∀ F' H',Rep C.K own F' H' σ ρ'->Chg (OA own σ) F H F' H'->Q b H'
 | .exc c ρ'=>∀ F' H',Same F' H'->ZY C.K C.ox F' H' σ ρ'->Chg (OA own σ) F H F' H'->C.E (C.cv c) none H'
 | .bad=>False
def tO (C:Ct) (own:List Nat) (f:Sl->Out (Option Int×Sl)):TO:=fun σ H Q=>∃ F ρ,Rep C.K own F H σ ρ/\PoO C own σ F H (f ρ) Q
noncomputable def Qc:Option (Sl->Out (D×Sl))->Sl->Out (Option Int×Sl)
 | none,ρ=>.ok (none,ρ)
 | some f,ρ=>(f ρ).bind fun p=>match p.1 with
  | .int i=>.ok (some i,p.2)
  | _=>.bad
theorem Po.bindO {o:Out (Option Int×Sl)} {k:Option Int×Sl->Out (D×Sl)} {Q:VK} {R:Option Int->Hp->Prop} (hp:Po C own m σ F H (o.bind k) Q)
  (h:∀ F1 H1 b ρ1,Rep C.K own F1 H1 σ ρ1->Chg (OA own σ) F H F1 H1->Po C own m σ F1 H1 (k (b,ρ1)) Q->R b H1):PoO C own σ F H o R:=by
 cases o with
 | ok p=>
  obtain ⟨d,ρ1⟩:=p
  exact fun F1 H1 rp c=>h F1 H1 d ρ1 rp c (Po.shift (show Po C own m σ F H (k (d,ρ1)) Q from hp) c)
 | exc x=>exact hp
 | bad=>exact hp.elim
noncomputable def Wu (fa:Sl->Out (D×Sl)) (l u k:Option (Sl->Out (D×Sl))):Sl->Out (D×Sl):=fun ρ=>(fa ρ).bind fun p=>(Qc l p.2).bind fun a=>(Qc u a.2).bind fun b=>(Qc k b.2).bind fun c=>(slD a.1 b.1 c.1 p.1).plain.bind fun d=>.ok (d,c.2)
section
variable {a:Expr} {p2:Pos}
theorem Wv:PO X none (tO C own (Qc none)):=by
 intro pins s σ H Q I ⟨F,ρ,rp,h⟩
 exact qbZ pins s σ H Q I (h F H rp .refl)
theorem GP (h:PE X e (tE C own m f)):PO X (some e) (tO C own (Qc (some f))):=by
 intro pins s σ H Q I ⟨F,ρ,rp,hp⟩
 refine qb0 h pins s σ H Q I ⟨F,ρ,rp,?_⟩
 have hp:PoO C own σ F H ((f ρ).bind fun p=>match p.1 with | .int i=>.ok (some i,p.2) | _=>.bad) Q:=hp
 cases q:f ρ with
 | ok p=>
  rw [q] at hp
  obtain ⟨d,ρ1⟩:=p
  cases d with
  | int i=>exact fun v F1 H1 rp1 c1 mo1=>⟨i,mo1.top.int,hp F1 H1 rp1 c1⟩
  | _=>exact hp.elim
 | exc c=>rw [q] at hp; exact hp
 | bad=>rw [q] at hp; exact hp.elim
theorem Xg {r:V->Option Int->Option Int->Option Int->Hp->VK->Prop} {tl th tk:TO} {lo hi st:Option Expr} (hr:qgW X r) (he:PE X e te) (hl:PO X lo tl) (hu:PO X hi th) (hk:PO X st tk) :
  PE X (.Subscript e (.Slice lo hi st p2) pos) (fun σ H Q=>te σ H fun x H1=>tl σ H1 fun l H2=>th σ H2 fun u H3=>tk σ H3 fun k H4=>r x l u k H4 Q):=by
 refine ⟨?_⟩
 intro pins s σ H Q I h
 refine Subscript_ (thn (he pins s σ H _ I h) fun v s1 ⟨x,H1,I1,r1,q1⟩=>?_)
 refine wpAny_Slice (thn (hl pins s1 σ H1 _ I1 q1) fun vl s2 ⟨l,H2,I2,pl,q2⟩=>thn (hu pins s2 σ H2 _ I2 q2) fun vu s3 ⟨u,H3,I3,pu,q3⟩=>thn (hk pins s3 σ H3 _ I3 q3) fun vk s4 ⟨k,H4,I4,pk,q4⟩=>?_)
 have I5:Inv X pins σ H4 { s4 with heap:=s4.heap.push { cls:=.type "slice",data:=.fields #[vl,vu,vk] } }:=I4.kept (t':=s4.toks) fun b ob q=>ae _ q
 obtain ⟨T,id,hT,ht,hg⟩:=hr pins { s4 with heap:=s4.heap.push { cls:=.type "slice",data:=.fields #[vl,vu,vk] } } σ H4 x v vl vu vk l u k s4.heap.objs.size Q I5 r1 (Heap.IsSliceOf.new ..) pl pu pk q4
 show wpAny (model X.prog X.w) X.A (subscriptTail e (.Slice lo hi st p2) v (.ref s4.heap.objs.size)) (EP X pins σ Q) X.xe { s4 with heap:=s4.heap.push { cls:=.type "slice",data:=.fields #[vl,vu,vk] } }
 cases st with
 | none=>exact tail_any (ops:=[.ref s4.heap.objs.size,v]) ht hT hg (by with_unfolding_all rfl)
 | some st=>exact tail_any (ops:=[v,.ref s4.heap.objs.size]) ht hT hg (by with_unfolding_all rfl)
theorem Qd {v:Value} {o:Option Int} (h:IsPart v o):∃ l:Option (Int×Tok),v=partValue l/\l.map (·.1)=o:=by
 cases h with
 | none=>exact ⟨none,rfl,rfl⟩
 | int i t=>exact ⟨some (i,t),rfl,rfl⟩
theorem qhC (hK:C.K=X.K):qgW X (fun x lo hi st H Q=>∃ F d,Same F H/\Is C.K F x d/\PoV C .sh F H (slD lo hi st d) Q):=by
 intro pins s σ H x v vl vu vk lo hi st sl Q I rx hs pl pu pk h
 obtain ⟨F,d,sb,is,po⟩:=h
 cases d with
 | tup ds=>
  have is0:=is
  cases is with
  | @tup a xs _ hq t=>
   cases rx
   have hq':SqT X.K H a xs:=by rw [<-hK]; exact qD sb hq
   obtain ⟨its,r,ht,hz⟩:=I.tuple hq'
   have hlen:its.length=ds.length:=r.length.symm.trans t.length
   have po:PoV C .sh F H (if st.getD 1≠0/\(vK (JJ ds.length lo hi (st.getD 1)) ds).length<=sizeLine then .ok (.tup (vK (JJ ds.length lo hi (st.getD 1)) ds)) else .bad) Q:=po
   by_cases c:st.getD 1≠0/\(vK (JJ ds.length lo hi (st.getD 1)) ds).length<=sizeLine
   ·rw [if_pos c] at po
    have iv:=t.pick (JJ ds.length lo hi (st.getD 1))
    have rv:=zr r (JJ ds.length lo hi (st.getD 1))
    refine ⟨"tuple",_,cJ.lookup,ht.typeIs,zt ht hs pl pu pk c.1 (fun e=>?_) ?_ ?_⟩
    ·rw [aq,hlen] at e
     refine ⟨.ref a,H,I,rfl,po _ F H sb .refl ?_⟩
     rw [e,GO]
     exact is0
    ·simp only [aq,hlen]
     have hlv:(vK (JJ ds.length lo hi (st.getD 1)) xs).length<=sizeLine:=by rw [iv.length]; exact c.2
     refine ⟨.ref s.heap.objs.size,_,I.laid (t':=s.toks) (o:=.tup (vK (JJ ds.length lo hi (st.getD 1)) xs)) (fun b ob q=>ae _ q) (ax _) ⟨⟨hlv,⟨_,ao _ rfl,rfl⟩⟩,_,rv,IsTup.new _ _⟩,rfl,?_⟩
     obtain ⟨s2,c2⟩:=yQ (u:=.tup (vK (JJ ds.length lo hi (st.getD 1)) xs)) sb (I.hok.fresh (ax _))
     exact po _ _ _ s2 c2 (.tup (.inl (.inl qo)) (iv.mono c2.grow))
    ·simp only [aq,hlen]
     rw [<-rv.length,iv.length]
     exact c.2
   ·rw [if_neg c] at po; exact po.elim
 | str z=>
  cases is
  obtain ⟨t,rfl⟩:=rx
  have po:PoV C .sh F H (if st.getD 1≠0/\(gG z lo hi (st.getD 1)).length<=sizeLine then .ok (.str (gG z lo hi (st.getD 1))) else .bad) Q:=po
  by_cases c:st.getD 1≠0/\(gG z lo hi (st.getD 1)).length<=sizeLine
  ·rw [if_pos c] at po
   obtain ⟨l,rfl,el⟩:=Qd pl
   obtain ⟨u,rfl,eu⟩:=Qd pu
   obtain ⟨k,rfl,ek⟩:=Qd pk
   refine ⟨"str",_,PySem.F.slot_str_getitem.lookup,typeIs_str s z t,wpAny_getItem_str_slice (l:=l) (u:=u) (st:=k) hs (by rw [ek]; simpa using c.1) ?_⟩
   have c2:=c.2
   unfold sliceMade slicePicked
   rw [el,eu,ek]
   unfold gG at c2 po
   by_cases q:(st.getD 1 == 1&&(cU lo hi (st.getD 1) z.length).length == z.length)=true
   ·rw [if_pos q] at c2 po ⊢
    exact ⟨.str z,H,I,⟨t,rfl⟩,po _ F H sb .refl (.str c2)⟩
   ·rw [if_neg q] at c2 po ⊢
    exact ⟨c2,.str _,H,I.tok _,⟨_,rfl⟩,po _ F H sb .refl (.str c2)⟩
  ·rw [if_neg c] at po; exact po.elim
 | _=>exact po.elim
theorem GQ {lo hi st:Option Expr} {l u k:Option (Sl->Out (D×Sl))} (hK:C.K=X.K) (he:PE X e (tE C own ma fa)) (hl:PO X lo (tO C own (Qc l))) (hu:PO X hi (tO C own (Qc u))) (hk:PO X st (tO C own (Qc k))) (hma:ma≠.any:=by decide) :
  PE X (.Subscript e (.Slice lo hi st p2) pos) (tE C own .sh (Wu fa l u k)):=by
 refine jR (Xg (qhC (C:=C) hK) (ux he hma) hl hu hk) fun σ H Q ⟨F,ρ,rp,h⟩=>⟨F,ρ,rp,Po.bind h fun v F1 H1 d ρ1 rp1 c1 mo1 h1=>?_⟩
 refine ⟨F1,ρ1,rp1,Po.bindO h1 fun F2 H2 a ρ2 rp2 c2 h2=>⟨F2,ρ2,rp2,Po.bindO h2 fun F3 H3 b ρ3 rp3 c3 h3=>⟨F3,ρ3,rp3,Po.bindO h3 fun F4 H4 c ρ4 rp4 c4 h4=>?_⟩⟩⟩
 exact ⟨F4,d,rp4.sub,((mo1.mono c2.grow).mono c3.grow).mono c4.grow,PoV.of rp4 h4⟩
end
noncomputable def Its (x:Str):It:=⟨fun i _=>i < x.cps.size,fun i H v H'=>H'=H/\∃ c,x.cps[i]?=some c/\v=.str ⟨#[c]⟩,fun i _=>x.cps.size<=i⟩
noncomputable def JK (x:Str):List D:=x.cps.toList.map fun c=>.str ⟨#[c]⟩
theorem Ww {P:Program} {w:World} {K:Frag} {tg:Expr} (it:Addr) (x:Str) (t:Tok) (ty:String) (hn:["enumerate", "zip", "dict_itemiterator", "dict_reverseitemiterator", "odict_iterator", "itertools.zip_longest", "itertools.pairwise"].contains ty=false)
  (W:∀ A:Around,A.handled=none->Walks P w A it [it] [it] x.cps.size (SignAt x) (fun i h=>h.IsStrIter it ty x t i)) (sf:∀ (A:Around) (i:Nat) (s:Shared) (Q:Value->Shared->Prop) (E:Value->Shared->Prop),s.heap.IsStrIter it ty x t i->Q (.ref it) s->wpAny (model P w) A (pyIter (.ref it)) Q E s) :
  Turn P w K tg (Its x) [it] it (fun i h=>h.IsStrIter it ty x t i/\i<=x.cps.size) where
 mem:=by simp
 obj:=fun i h st b hb=>by
  have e:b=it:=by simpa using hb
  subst e
  obtain ⟨o,e,c,d⟩:=st.1
  exact ⟨o,e,fun v z=>by rw [d] at z; cases z⟩
 keep:=fun i h h' st k=>by
  obtain ⟨⟨o,e,r⟩,hi⟩:=st
  exact ⟨⟨o,k it (by simp) o e,r⟩,hi⟩
 item:=by
  intro X hP hw hK hc i pins s σ H E I hf st hg
  subst hP hw hK
  obtain ⟨f0,f1,f2,f3,f4,f5⟩:=hf it (by simp)
  refine (W X.A (I.ok.hd hc)).item i s _ _ hg st.1 fun v h' tk hP st' kp=>?_
  have I1:Inv X pins σ H { s with heap:=h',toks:=tk }:=I.turned (t':=tk) (fun b o hb e=>kp b o (by simpa using hb) e) f0 f1 f3 f4 f5
  obtain ⟨o,e,c,d⟩:=id st'
  obtain ⟨c',u,h1,h2⟩:∃ c' u,x.cps[i]?=some c'/\v=eR ⟨#[c']⟩ u:=by
   unfold SignAt at hP
   first
    | exact hP
    | (obtain ⟨c',u,h1,h2⟩:=hP; exact ⟨c',u,h1,h2⟩)
    | (obtain ⟨c',h1,u,h2⟩:=hP; exact ⟨c',u,h1,h2⟩)
    | (obtain ⟨u,c',h1,h2⟩:=hP; exact ⟨c',u,h1,h2⟩)
  subst h2
  exact ⟨_,rfl,Gg (s:={ s with heap:=h',toks:=tk }) e c d hn ⟨.str ⟨#[c']⟩,H,I1,⟨u,rfl⟩,⟨rfl,c',h1,rfl⟩,⟨st',hg⟩,fun b hb=>(hf b hb).1⟩⟩
 done:=by
  intro X hP hw hK hc i pins s σ H E I hf st hg
  subst hP hw hK
  obtain ⟨f0,f1,f2,f3,f4,f5⟩:=hf it (by simp)
  have hi:i=x.cps.size:=d4 st.2 hg
  subst hi
  exact (W X.A (I.ok.hd hc)).done s _ _ st.1 fun h' tk kp=>⟨rfl,I.turned (t':=tk) (fun b o hb e=>kp b o (by simpa using hb) e) f0 f1 f3 f4 f5⟩
 self:=fun A i s Q E st h=>sf A i s Q E st.1 h
theorem qen:ItIs K F (Its x) (JK x) where
 go:=fun i H hi _=>by
  have:i < x.cps.size:=by simpa [JK] using hi
  exact this
 yld:=fun i Fi H v H' d e s1 s2 y=>by
  obtain ⟨rfl,c,h1,rfl⟩:=y
  have e:d=.str ⟨#[c]⟩:=by
   unfold JK at e
   rw [aG] at e
   have h1:x.cps.toList[i]?=some c:=by simpa using h1
   rw [h1] at e
   exact (aT.inj e).symm
  subst e
  exact ⟨Fi,.refl,s2,.str (Wm c)⟩
 stop:=fun i H hi _=>by
  have:x.cps.size<=i:=by simpa [JK] using hi
  exact this
noncomputable def jL:D->Out (List D)
 | .lst xs=>.ok xs
 | .tup xs=>.ok xs
 | .str x=>.ok (JK x)
 | _=>.bad
noncomputable def km (f:Sl->Out (D×Sl)):Sl->Out (List D×Sl):=fun ρ=>(f ρ).bind fun p=>(jL p.1).bind fun ds=>.ok (ds,p.2)
section
theorem qeo {l:Expr} {tl:TE} (hl:PE X l tl):PI X tg l (fun σ H R=>tl σ H fun x H1=>(∃ a,x=.ref a/\(((∃ xs,SqL X.K H1 a xs)/\R (Itl X.K a) H1)\/((∃ xs,SqT X.K H1 a xs)/\R (Itt X.K a) H1)))\/∃ z,x=.str z/\R (Its z) H1):=by
 refine ⟨?_⟩
 intro pins s σ H R I h
 refine thn (hl pins s σ H _ I h) fun v s1 ⟨x,H1,I1,r1,q1⟩=>?_
 have fp:∀ b∈[s1.heap.objs.size],KA X pins H1 b:=fun b hb=>by
  have e:b=s1.heap.objs.size:=by simpa using hb
  subst e
  exact I1.fpOk (ax _) (I1.hok.fresh (ax _))
 rcases q1 with ⟨a,rfl,q⟩ | ⟨z,rfl,q⟩
 ·cases r1
  rcases q with ⟨⟨xs,hq⟩,q⟩ | ⟨⟨xs,hq⟩,q⟩
  ·obtain ⟨its,rv,p,hz⟩:=I1.list hq
   refine wpAny_pyIter_list p.isList ?_
   exact ⟨s1.heap.objs.size,[s1.heap.objs.size],_,_,H1,rfl,I1.kept (t':=s1.toks) fun b o e=>ae _ e,Yn a _,⟨_,ao _ rfl,rfl,rfl⟩,fp,q⟩
  ·obtain ⟨its,rv,p,hz⟩:=I1.tuple hq
   refine wpAny_pyIter_tuple (show s1.heap.IsTuple a its.toArray from p) ?_
   exact ⟨s1.heap.objs.size,[s1.heap.objs.size],_,_,H1,rfl,I1.kept (t':=s1.toks) fun b o e=>ae _ e,Uu a _,⟨_,ao _ rfl,rfl,rfl⟩,fp,q⟩
 ·obtain ⟨t,rfl⟩:=r1
  cases ha:z.cps.all (· < 128) with
  | true=>
   refine wpAny_pyIter_ascii ha ?_
   exact ⟨s1.heap.objs.size,[s1.heap.objs.size],_,_,H1,rfl,I1.kept (t':=s1.toks) fun b o e=>ae _ e,Ww _ z t "str_ascii_iterator" (by decide) (fun A hA=>Walks.strAscii hA _ z t) (fun A i s Q E st h=>wpAny_pyIter_striter_ascii st h),⟨⟨_,ao _ rfl,rfl,rfl⟩,bB _⟩,fp,q⟩
  | false=>
   refine wpAny_pyIter_wide ha ?_
   exact ⟨s1.heap.objs.size,[s1.heap.objs.size],_,_,H1,rfl,I1.kept (t':=s1.toks) fun b o e=>ae _ e,Ww _ z t "str_iterator" (by decide) (fun A hA=>Walks.strWide hA _ z t) (fun A i s Q E st h=>wpAny_pyIter_striter_wide st h),⟨⟨_,ao _ rfl,rfl,rfl⟩,bB _⟩,fp,q⟩
theorem qW (hK:C.K=X.K) (h:PE X e (tE C own m f)) (hm:m≠.any:=by decide):PI X tg e (tIt C own (km f)):=by
 refine YW (qeo (ux h hm)) fun σ H R ⟨F,ρ,rp,h⟩=>⟨F,ρ,rp,PoI.bindV h fun v F1 H1 d ρ1 rp1 c1 mo1 h1=>?_⟩
 have mo1:Is C.K F1 v d:=mo1
 cases mo1 with
 | lst p t=>exact .inl ⟨_,rfl,.inl ⟨⟨_,by rw [<-hK]; exact rp1.sub.seq p⟩,by rw [<-hK]; exact h1 _ F1 H1 rp1 c1 (qee p t)⟩⟩
 | tup p t=>exact .inl ⟨_,rfl,.inr ⟨⟨_,by rw [<-hK]; exact qD rp1.sub p⟩,by rw [<-hK]; exact h1 _ F1 H1 rp1 c1 (qef p t)⟩⟩
 | str hz=>exact .inr ⟨_,rfl,h1 _ F1 H1 rp1 c1 qen⟩
 | _=>exact h1.elim
end
end L2.D2
namespace L2.D2
open PySem PySem.Spec PySem.Calls PyProof.Rows PySem.W Builtin Builtin.ObjectAttr Builtin.Getset_descriptor
noncomputable def xcB (K:Frag) (C:Addr):Bool:=decide (subIn K (.ref C) (.type "BaseException")=some true)&&decide (findIn K (.ref C) "__getattribute__"=some (some (.builtin "BaseException.__getattribute__")))&&decide (findIn K (.ref C) "__getattr__"=some none) &&
 decide (findIn K (.ref C) "__class__"=some (some (.builtin "object.__class__")))&&decide (mroIn K C (.type "object")=some true)&&(clsIn K C).isSome
end L2.D2
namespace L2.D2
open PySem PySem.Spec PyProof.Rows
variable {P:Program} {w:World} {K:Frag} {N:List Str} {A:Around} {C:Ct}
theorem Wx {mg:Str->Option Value} {base:Heap} {qual:Str} {scope:Scope} {f:Addr} {cd:Value} {outer:List Env} {s0:Shared} {H0:Hp} {E:XK} (h:C.E=E):Xd (cxk P w K mg base N qual scope f cd A outer s0 H0 E) C:=by
 subst h
 exact qej
noncomputable def qgX (ca:Str->Addr) (cs:List Str) (c:Str):Option Addr:=if c∈cs then some (ca c) else none
noncomputable def qgY (ca:Str->Addr) (cs:List Str) (x:Str) (C:Addr):Option Bool:=if C∈cs.map ca then some (decide (C=ca x)) else none
structure Xs (K:Frag) (cv:Str->Value) (ca:Str->Addr) (cs:List Str) (top:Str):Prop where
 val:∀ c∈cs,cv c=.ref (ca c)
 own:∀ c∈cs,dH K (.ref (ca c)) (cv top)=some true
 cls:∀ c∈cs,xcB K (ca c)=true
 kit:∀ c∈cs,∀ d∈cs,b8 K (.ref (ca c)) (.ref (ca d))=some (decide (ca c=ca d))
 ve:∀ c∈cs,b8 K (.ref (ca c)) (.type "ValueError")=some true
variable {x:Str}
section
variable {cv:Str->Value} {ca:Str->Addr} {cs:List Str} {top:Str}
theorem Xs.hit (z:Xs K cv ca cs top):∀ c Cc,qgX ca cs c=some Cc->cv c=.ref Cc/\dH K (.ref Cc) (cv top)=some true:=fun c Cc h=>by
 unfold qgX at h
 split at h
 ·cases h
  exact ⟨z.val c (by assumption),z.own c (by assumption)⟩
 ·cases h
theorem Xs.ans (z:Xs K cv ca cs top) (hx:x∈cs):∀ Cc b,qgY ca cs x Cc=some b->xcB K Cc=true/\b8 K (.ref Cc) (.ref (ca x))=some b:=fun Cc b h=>by
 unfold qgY at h
 split at h
 ·rename_i hm
  obtain ⟨c,hc,rfl⟩:=aj.mp hm
  cases h
  exact ⟨z.cls c hc,z.kit c hc x hx⟩
 ·cases h
end
noncomputable def KC:D->Option Key
 | .int i=>some (.inl i)
 | .str x=>some (.inr x)
 | _=>none
noncomputable def qa7 (kvs:List (Key×D)) (k:Key) (d:D):List (Key×D):=if kvs.any (fun p=>decide (p.1=k)) then kvs.map fun p=>if p.1=k then (p.1,d) else p else kvs++[(k,d)]
variable {F:Hp}
theorem IsK.any {k:Key}:∀ {kv:List (Key×V)} {ks:List (Key×D)},IsK K F kv ks->(kv.any fun p=>decide (p.1=k))=(ks.any fun p=>decide (p.1=k))
 | _,_,.nil=>rfl
 | _,_,.cons h t=>by rw [cF,cF,IsK.any t]
variable {v:V} {d:D}
theorem IsK.repl {k:Key} (i:Is K F v d):∀ {kv:List (Key×V)} {ks:List (Key×D)},IsK K F kv ks->IsK K F (kv.map fun p=>if p.1=k then (p.1,v) else p) (ks.map fun p=>if p.1=k then (p.1,d) else p)
 | _,_,.nil=>.nil
 | _,_,.cons (k:=k') h t=>by
  rw [aC,aC]
  by_cases e:k'=k
  ·simp only [e,if_true]; exact .cons i (IsK.repl i t)
  ·simp only [e,if_false]; exact .cons h (IsK.repl i t)
theorem IsK.snoc {k:Key} (i:Is K F v d):∀ {kv:List (Key×V)} {ks:List (Key×D)},IsK K F kv ks->IsK K F (kv++[(k,v)]) (ks++[(k,d)])
 | _,_,.nil=>.cons i .nil
 | _,_,.cons h t=>.cons h (IsK.snoc i t)
variable {kv:List (Key×V)}
theorem IsK.put {k:Key} {ks:List (Key×D)} (h:IsK K F kv ks) (i:Is K F v d):IsK K F (KK kv k v) (qa7 ks k d):=by
 unfold KK qa7
 rw [h.any]
 by_cases e:(ks.any fun p=>decide (p.1=k))=true
 ·rw [if_pos e,if_pos e]; exact IsK.repl i h
 ·rw [if_neg e,if_neg e]; exact IsK.snoc i h
variable {X:Cx} {pins:List (Addr×Obj)} {σ:St} {H:Hp} {s:Shared} {u:Value}
section
theorem zj {k:Key} (i:Is C.K F v d) (r:RelV v u) (e:KC d=some k):Je k u=true:=by
 cases d with
 | int z=>cases i; cases e; obtain ⟨t,rfl⟩:=r; exact Jf z t
 | str z=>cases i; cases e; obtain ⟨t,rfl⟩:=r; exact Jg z t
 | _=>cases e
noncomputable def GR (kvs:List (Key×D)) (k:Key):Bool:=kvs.any fun p=>decide (p.1=k)
noncomputable def inA:D->D->Out D
 | x,.dct kvs=>match KC x with
  | some k=>.ok (.bl (GR kvs k))
  | none=>.bad
 | x,y=>qfm x y
noncomputable def xT:D->D->Out D
 | x,.dct kvs=>match KC x with
  | some k=>.ok (.bl (!GR kvs k))
  | none=>.bad
 | x,y=>UC x y
theorem Wz {ks:List (Key×D)} {k:Key} (h:IsK K F kv ks):(KB kv k).isSome=GR ks k:=by
 rw [<-gW,h.any]; rfl
theorem qfs {k:Key} (h:TopIs C.K F H v d) (e:KC d=some k):v=kV k:=by
 cases d with
 | int z=>cases e; exact h.int
 | str z=>cases e; exact h.str.1
 | _=>cases e
theorem qep (hK:C.K=X.K) (hu:X.A.units+64 < cLine):OpD X C .sh (compareOp .In) inA:=by
 intro pins s σ H x y v u Q I rx ry h
 obtain ⟨F,dx,dy,sb,tx,ty,po⟩:=h
 by_cases hd:∃ kvs,dy=.dct kvs
 ·obtain ⟨kvs,rfl⟩:=hd
  cases q:KC dx with
  | none=>unfold inA at po; simp only [q] at po; exact po.elim
  | some k=>
   unfold inA at po
   simp only [q] at po
   obtain ⟨a,kv,rfl,hH,ik⟩:=ty.dct sb
   cases ry
   have ex:=qfs tx q
   subst ex
   refine qhz (by omega) I (DGet.k (k:=k) hH) rx fun s' I'=>⟨.bl _,H,I',rfl,?_⟩
   rw [Wz ik]
   exact po _ F H sb .refl (.bl _)
 ·have e:inA dx dy=qfm dx dy:=by
   cases dy <;> first | rfl | exact absurd ⟨_,rfl⟩ hd
  rw [e] at po
  exact qgd hK hu pins s σ H x y v u Q I rx ry ⟨F,dx,dy,sb,tx,ty,po⟩
theorem vL (hK:C.K=X.K) (hu:X.A.units+64 < cLine):OpD X C .sh (compareOp .NotIn) xT:=by
 intro pins s σ H x y v u Q I rx ry h
 obtain ⟨F,dx,dy,sb,tx,ty,po⟩:=h
 by_cases hd:∃ kvs,dy=.dct kvs
 ·obtain ⟨kvs,rfl⟩:=hd
  cases q:KC dx with
  | none=>unfold xT at po; simp only [q] at po; exact po.elim
  | some k=>
   unfold xT at po
   simp only [q] at po
   obtain ⟨a,kv,rfl,hH,ik⟩:=ty.dct sb
   cases ry
   have ex:=qfs tx q
   subst ex
   refine qb4 (by omega) I (DGet.k (k:=k) hH) rx fun s' I'=>⟨.bl _,H,I',rfl,?_⟩
   rw [Wz ik]
   exact po _ F H sb .refl (.bl _)
 ·have e:xT dx dy=UC dx dy:=by
   cases dy <;> first | rfl | exact absurd ⟨_,rfl⟩ hd
  rw [e] at po
  exact GC hK hu pins s σ H x y v u Q I rx ry ⟨F,dx,dy,sb,tx,ty,po⟩
end
theorem qcr (t:SetTable) (es:Array (Int×Value)) (h:Int) (x:Value):(layNew t es h x).2.1.led=t.led:=by
 unfold layNew
 cases t.freeSlot h with
 | none=>rfl
 | some p=>
  obtain ⟨sl,wd⟩:=p
  show (dm (t.put sl).1 _).led=t.led
  unfold dm
  split <;> rfl
theorem Xh {t:SetTable} (es:Array (Int×Value)) (h:Int) (x:Value) (e:t.plain=false):(layNew t es h x).2.1.plain=false:=by
 unfold layNew
 cases t.freeSlot h with
 | none=>rfl
 | some p=>
  obtain ⟨sl,wd⟩:=p
  show (dm (t.put sl).1 _).plain=false
  unfold dm
  split
  ·exact e
  ·rfl
theorem qcs {m f v:Nat} {l p:Bool} {hs:Array Int} {t:SetTable} {o:Array Nat} (h:fz m f v l p hs=some (t,o)):t.led=l/\t.plain=p:=by
 unfold fz at h
 cases e:SetTable.layClean m hs with
 | none=>
  rw [e] at h
  cases h
 | some ow=>
  rw [e] at h
  have h2:=congrArg Prod.fst (aT.inj h)
  subst h2
  exact ⟨rfl,rfl⟩
theorem Va (t:SetTable) (es:Array (Int×Value)) (n:Nat):(relayAll t es n).2.1.led=t.led/\(t.plain=false->(relayAll t es n).2.1.plain=false):=by
 unfold relayAll
 cases e:t.relaid (es.map (·.1)) n with
 | none=>exact ⟨rfl,fun _=>rfl⟩
 | some q=>
  obtain ⟨t',o⟩:=q
  have hk:=qcs (show fz _ _ _ _ _ _=some (t',o) from e)
  dsimp only
  split
  ·exact ⟨hk.1,fun z=>hk.2.trans z⟩
  ·exact ⟨rfl,fun _=>rfl⟩
noncomputable def vF (ks:List Str) (x:Str):List Str:=if x∈ks then ks else ks++[x]
noncomputable def jT (es:Array (Int×Value)) (ep:Nat) (t:SetTable):Obj:={ cls:=.type "set",dict:=none,data:=.set es ep t,slots:=#[] }
structure SetD (prog:Program) (w:World) (es:Array (Int×Value)) (t:SetTable) (ks:List Str):Prop where
 el:ElemsOf (bg prog w) es.toList
 perm:(es.toList.map fun e=>strOf e.2).Perm ks
 nd:ks.Nodup
 bd:es.size < scanBound
 fits:t.fits es.size=true
 led:t.led=!(w.params.followText "set-order")
 plain:ks≠[]->t.plain=false
def SetS (prog:Program) (w:World) (h:Heap) (a:Addr) (ks:List Str):Prop:=∃ es ep t,h.get? a=some (jT es ep t)/\SetD prog w es t ks
variable {E:Value->Shared->Prop} {ks:List Str} {prog:Program} {y:Str} {es:Array (Int×Value)} {h:Heap} {a:Addr} {ep:Nat}
section
theorem Xi {l:List (Int×Value)} (h:ElemsOf (bg prog w) l) {e:Int×Value} (he:e∈l):∃ x t,e.2=.str x t:=by
 obtain ⟨⟨k,hk,_⟩,_⟩:=h e he
 obtain ⟨t,ht⟩:=Value.isStrOf_shape hk
 exact ⟨k,t,ht⟩
theorem isS {t:Tok}:(bg prog w).is x (.str y t)=decide (x=y):=by
 have h:(bg prog w).is y (.str y t)=true:=by
  show eN y (.str y t)=true
  simp [eN]
 exact KeyKind.is_eq_decide h x
theorem SetD.mem {t:SetTable} (h:SetD prog w es t ks):x∈ks↔∃ e∈es.toList,(bg prog w).is x e.2=true:=by
 rw [<-h.perm.mem_iff,aj]
 constructor
 ·rintro ⟨e,he,z⟩
  obtain ⟨y,t,hy⟩:=Xi h.el he
  refine ⟨e,he,?_⟩
  rw [hy] at z ⊢
  rw [isS]
  exact decide_eq_true z.symm
 ·rintro ⟨e,he,z⟩
  obtain ⟨y,t,hy⟩:=Xi h.el he
  refine ⟨e,he,?_⟩
  rw [hy] at z ⊢
  rw [isS] at z
  exact (of_decide_eq_true z).symm
theorem SetD.size {t:SetTable} (h:SetD prog w es t ks):es.size=ks.length:=by
 have e:=h.perm.length_eq
 simpa using e
theorem qa8 {es':Array (Int×Value)} {t t':SetTable} (ho:h.get? a=some (jT es ep t)):(h.update a (fE es' t')).get? a=some (jT es' (ep+1) t'):=by
 have e:=aN (fE es' t') ho (by rw [putSet_of (o:=jT es ep t) es' t' rfl]; rfl)
 rw [putSet_of (o:=jT es ep t) es' t' rfl] at e
 exact e
theorem SetD.more {es1:Array (Int×Value)} {t t1:SetTable} {tk:Tok} (h:SetD prog w es t ks) (nx:x∉ks) (hr:ks.length+1 < scanBound)
  (hp:es1.toList.Perm (es.toList++[((bg prog w).hash x,.str x tk)])) (hf:t1.fits es1.size=true) (hl:t1.led=t.led) (hq:t1.plain=false):SetD prog w es1 t1 (vF ks x):=by
 have ex:vF ks x=ks++[x]:=if_neg nx
 have hz:es1.size=ks.length+1:=by
  rw [<-bN,hp.length_eq,ai,bN,h.size]
  rfl
 rw [ex]
 refine ⟨(h.el.push (by rw [isS]; exact decide_eq_true rfl) rfl).perm hp,?_,?_,?_,hf,hl.trans h.led,fun _=>hq⟩
 ·refine (hp.map _).trans ?_
  rw [bW]
  exact h.perm.append (cr _)
 ·exact cg.mpr ⟨h.nd,by simp,fun a ha b hb=>by rw [am.mp hb]; exact fun z=>nx (z ▸ ha)⟩
 ·rw [hz]
  exact hr
theorem qct {x:Str} {tk:Tok} {Q:Bool->Shared->Prop} (hS:SetS prog w s.heap a ks) (hr:ks.length+1 < scanBound)
  (h:∀ h' b,bQ a s.heap h'->SetS prog w h' a (vF ks x)->Q b { s with heap:=h' }):wpAny (model prog w) A (setAddHashed a (.str x tk) ((bg prog w).hash x)) Q E s:=by
 obtain ⟨es,ep,t,ho,d⟩:=hS
 have hk:(bg prog w).is x (.str x tk)=true:=by rw [isS]; exact decide_eq_true rfl
 unfold setAddHashed setAddHashedIn
 refine wpAny_holding (wpAny_bind (wpAny_setState_of ho rfl d.fits ?_))
 dsimp only
 rw [byScan_of rfl d.bd d.el,if_pos rfl]
 unfold setAddByScan
 refine wpAny_bind (wpAny_bind (wpAny_rule (wpAny_bind (wpAny_setScan_of hk ho rfl d.fits d.el ?_))))
 cases hq:es.toList.findIdx? (fun e=>(bg prog w).is x e.2) with
 | some j=>
  obtain ⟨hj,hp,_⟩:=List.findIdx?_eq_some_iff_getElem.mp hq
  have hx:x∈ks:=d.mem.mpr ⟨_,bq hj,hp⟩
  have q:=h s.heap false (Heap.SameBut.refl a s.heap) ⟨es,ep,t,ho,by rw [show vF ks x=ks from if_pos hx]; exact d⟩
  dsimp only
  exact wpAny_pure (wpAny_pure q)
 | none=>
  have hx:x∉ks:=fun z=>by
   obtain ⟨e,he,q⟩:=d.mem.mp z
   have:=List.findIdx?_eq_none_iff.mp hq e he
   rw [q] at this
   cases this
  dsimp only
  have hp:=layNew_perm t es ((bg prog w).hash x) (.str x tk)
  have hf:=layNew_fits t es ((bg prog w).hash x) (.str x tk)
  have hl:=qcr t es ((bg prog w).hash x) (.str x tk)
  have hn:=fun e=>Xh (t:=t) es ((bg prog w).hash x) (.str x tk) e
  generalize layNew t es ((bg prog w).hash x) (.str x tk)=L at hp hf hl hn ⊢
  obtain ⟨es1,t1,wd,gv⟩:=L
  dsimp only at hp hf hl hn ⊢
  rw [Array.toList_push] at hp
  have tail:∀ t2:SetTable,t2.fits es1.size=true->t2.led=t.led->t2.plain=false->wpAny (model prog w) A (do
    storeSet a es1 t2
    if (!wd&&t2.tooFull)=true then do
      (match (relayAll t2 es1 (cM es1.size)).2.2 with | true=>rule "set.scan.the-table-gave-way" | false=>pure ())
      storeSet a (relayAll t2 es1 (cM es1.size)).1 (relayAll t2 es1 (cM es1.size)).2.1
      pure (some true)
     else pure (some true)) (fun r s'=>∃ h',s'={ s with heap:=h' }/\r=some true/\bQ a s.heap h'/\SetS prog w h' a (vF ks x)) E s:=by
   intro t2 f2 l2 p2
   have d2:=d.more hx hr hp f2 l2 p2
   refine wpAny_bind (wpAny_storeSet_of ho rfl ?_ (fits_of_scanBound d2.bd))
   have ho1:=qa8 (es':=es1) (t':=t2) ho
   have sb:=bn s.heap a (fE es1 t2)
   split
   ·have rp:=relayAll_perm t2 es1 (cM es1.size)
    have rf:=relayAll_fits t2 es1 (cM es1.size)
    have rk:=Va t2 es1 (cM es1.size)
    generalize relayAll t2 es1 (cM es1.size)=R at rp rf rk ⊢
    obtain ⟨es2,t3,g2⟩:=R
    dsimp only at rp rf rk ⊢
    have d3:=d.more hx hr (rp.trans hp) rf (rk.1.trans l2) (rk.2 p2)
    refine wpAny_bind ?_
    have go:wpAny (model prog w) A (storeSet a es2 t3 >>= fun _=>pure (some true)) (fun r s'=>∃ h',s'={ s with heap:=h' }/\r=some true/\bQ a s.heap h'/\SetS prog w h' a (vF ks x)) E { s with heap:=s.heap.update a (fE es1 t2) }:=
     wpAny_bind (wpAny_storeSet_of ho1 rfl (wpAny_pure ⟨_,rfl,rfl,sb.trans (bn _ a _),es2,_,t3,qa8 ho1,d3⟩) (fits_of_scanBound d3.bd))
    cases g2
    ·exact wpAny_pure go
    ·exact wpAny_rule go
   ·exact wpAny_pure ⟨_,rfl,rfl,sb,es1,_,t2,ho1,d2⟩
  have fin:∀ (r:Option Bool) (s':Shared),(∃ h',s'={ s with heap:=h' }/\r=some true/\bQ a s.heap h'/\SetS prog w h' a (vF ks x)) ->
    wpAny (model prog w) A (match r with | some added=>pure added | none=>setAddHashedIn a (.str x tk) ((bg prog w).hash x) 99999) Q E s':=by
   rintro r s' ⟨h',rfl,rfl,sb,hS⟩
   exact wpAny_pure (h h' true sb hS)
  have gw:∀ (b:Bool) {s₁:Shared} {Q':Unit->Shared->Prop},Q' () s₁->wpAny (model prog w) A (match b with | true=>rule "set.scan.the-table-gave-way" | false=>pure ()) Q' E s₁:=fun b s₁ Q' q=>by
   cases b
   ·exact wpAny_pure q
   ·exact wpAny_rule q
  refine wpAny_bind (gw _ ?_)
  cases e1:t1.plain with
  | true=>
   rw [if_pos rfl,hashByValue_scannable 8 (x:=.str x tk) rfl]
   refine wpAny_bind (wpAny_pure ?_)
   show wpAny _ _ (storeSet a es1 { t1 with plain:=false } >>= _) _ _ _
   exact wpAny_mono (tail { t1 with plain:=false } (SetTable.fits_plain_off hf) hl rfl) fin fun _ _ z=>z
  | false=>
   rw [if_neg (by simp)]
   refine wpAny_bind (wpAny_pure ?_)
   show wpAny _ _ (storeSet a es1 t1 >>= _) _ _ _
   exact wpAny_mono (tail t1 hf hl e1) fin fun _ _ z=>z
end
theorem GS (ks:List Str) (x:Str):(vF ks x).length<=ks.length+1:=by
 unfold vF
 split
 ·omega
 ·rw [ai]
  exact ax _
theorem yp:∀ (l ks:List Str),(l.foldl vF ks).length<=ks.length+l.length
 | [],ks=>ax _
 | x::l,ks=>by
  have h1:=yp l (vF ks x)
  have h2:=GS ks x
  rw [d5,ap]
  omega
variable {h':Heap}
theorem SetS.at (hS:SetS prog w h a ks) (k:∀ o,h.get? a=some o->h'.get? a=some o):SetS prog w h' a ks:=
 let ⟨es,ep,t,ho,d⟩:=hS; ⟨es,ep,t,k _ ho,d⟩
variable {n:Nat}
section
variable {R:Result->Shared->Prop} {I:Addr} {fp wr:List Addr} {P:Nat->Value->Prop} {St:Nat->Shared->Prop}
theorem WA {G:Array GenState->Array GenState->Prop} (W:WalksS prog w A.in1 I fp wr G n P St) (S:Addr) (hSf:S∉fp) (ss:List Str) (hn:ss.length=n) (hv:∀ i v,P i v->∃ x t,ss[i]?=some x/\v=.str x t) (hb:n+1 < scanBound) :
  ∀ (k i:Nat) (s:Shared),n - i=k->i<=n->St i s->SetS prog w s.heap S ((ss.take i).foldl vF []) ->
   (∀ s',Moved (S::wr) G s s'->SetS prog w s'.heap S (ss.foldl vF [])->R (.ok (.ret .none)) s')->codeAny (model prog w) A (.builtin "set.update.loop" ⟨[.ref S,.ref I],[]⟩) R s:=by
 have nw:S∉wr:=fun h=>hSf (W.sub _ h)
 have up:∀ b∈wr,b∈S::wr:=fun b hb=>aa _ hb
 intro k
 induction k with
 | zero=>
  intro i s hk hi hst hS hR
  have hin:i=n:=by omega
  subst hin
  refine codeAny_builtin F.entry_set_update_loop ?_
  rw [be dA _]; show wpAny _ A.in1 (pyNext (.ref I) >>= _) _ _ s
  refine wpAny_bind (W.done s _ _ hst fun s' hm=>wpAny_pure (hR s' (hm.mono up) ?_))
  rw [List.take_of_length_le (eh hn)] at hS
  exact hS.at fun o e=>hm.heap S o nw e
 | succ k ih=>
  intro i s hk hi hst hS hR
  have hlt:i < n:=by omega
  refine codeAny_builtin F.entry_set_update_loop ?_
  rw [be dA _]; show wpAny _ A.in1 (pyNext (.ref I) >>= _) _ _ s
  refine wpAny_bind (W.item i s _ _ hlt hst fun v s' hP hst' hm=>?_)
  obtain ⟨x,t,hx,rfl⟩:=hv i v hP
  have hS':SetS prog w s'.heap S ((ss.take i).foldl vF []):=hS.at fun o e=>hm.heap S o nw e
  show wpAny _ A.in1 (holding [eR x t] (setAdd S (.str x t)) >>= _) _ _ s'
  refine wpAny_bind (wpAny_holding ?_)
  unfold setAdd
  refine wpAny_holding (wpAny_bind ((bg prog w).pyHash (k:=x) (by rw [isS]; exact decide_eq_true rfl) ?_))
  have hroom:((ss.take i).foldl vF []).length+1 < scanBound:=by
   have h1:=yp (ss.take i) []
   rw [List.length_take,ba] at h1
   omega
  refine qct (s:={ s' with toks:=s'.toks+1 }) hS' hroom fun h' b sb hS2=>?_
  have e2:vF ((ss.take i).foldl vF []) x=(ss.take (i+1)).foldl vF []:=by
   rw [List.take_add_one,hx,eJ]
   rfl
  rw [e2] at hS2
  refine wpAny_pure ⟨plainId_quiet dA _,ih (i+1) _ (by omega) hlt (W.frame _ s' _ _ hst' (eE _) fun b hb o e=>?_) hS2 fun s'' hm'' hS''=>?_⟩
  ·rw [sb.2 b fun z:b=S=>hSf (z ▸ hb)]
   exact e
  ·refine hR s'' (fk W.gtrans ((hm.mono up).then_heap (eE _) fun b o hb e=>?_) hm'') hS''
   rw [sb.2 b fun z:b=S=>hb (z ▸ ah)]
   exact e
end
variable {ss:List Str} {i:Nat} {items:Array Value}
section
abbrev qeq (w:World):Obj:=jT #[] 0 (.fresh 0 0 (!(w.params.followText "set-order")))
theorem JL (e:h.get? a=some (qeq w)):SetS prog w h a []:=
 ⟨_,_,_,e,⟨fun e he=>by simp at he,by simp,dI,by decide,by rfl,rfl,fun z=>absurd rfl z⟩⟩
theorem qcu (a:Value) {Q₁:Value->Shared->Prop} (h:Q₁ (.ref s.heap.objs.size) { s with heap:=s.heap.push (qeq w) }) :
  codeAny (model prog w) A (.call (.builtin "set.__new__") ⟨[.type "set",a],[]⟩) (wants Q₁ E) s:=by
 refine codeAny_of_tree ?_; show wpAny _ A.in1 (do checkBuiltinCall "set.__new__" ⟨[.type "set",a],[]⟩; again (.builtin "set.__new__" ⟨[.type "set",a],[]⟩)) _ _ s
 refine wpAny_bind (wpAny_of_eq (PySem.F.newCall_set_1 a) (wpAny_pure ⟨plainId_quiet PySem.F.plain_set_new _,codeAny_builtin PySem.F.entry_set_new ?_⟩)); rw [be PySem.F.plain_set_new _]
 unfold Builtin.«set.__new__» Builtin.Frozenset.newClass; have hsub:=sub_set_self; obtain ⟨hp,g,d,tk,os⟩:=s; dsimp only; wp_walk
 refine wpAny_askSetting (wpAny_pure ?_); dsimp only; simp only [newObj]
 exact wpAny_bind (wpAny_alloc (wpAny_pure (wpAny_pure h)))
theorem Vb:isSubtype (.type "tuple") (.type "set")=pure false:=by rw [isSubtype_type]; kernel_rfl
theorem gp:isSubtype (.type "tuple") (.type "frozenset")=pure false:=by rw [isSubtype_type]; kernel_rfl
theorem Xj {vs:List Value} (h:StrsAre vs ss) {v:Value} (e:vs[i]?=some v):∃ x t,ss[i]?=some x/\v=.str x t:=by
 obtain ⟨y,t,e1,e2⟩:=h.item i v e
 exact ⟨y,t,e2,e1⟩
theorem GT {S l:Addr} {Q:Unit->Shared->Prop} (hh:A.handled=none) (hS:SetS prog w s.heap S []) (hl:s.heap.IsList l items) (hi:StrsAre items.toList ss) (hb:items.size+1 < scanBound) (hne:l≠S)
  (h:∀ h' tk,SetS prog w h' S (ss.foldl vF [])->(∀ b o,b≠S->s.heap.get? b=some o->h'.get? b=some o)->Q () { s with heap:=h',toks:=tk }) :
  wpAny (model prog w) A (bx "set.__init__" S (.ref l)) Q E s:=by
 have hT:s.TypeIs (.ref l) "list":=let ⟨o,e,c,_⟩:=hl; ⟨o,e,c⟩
 unfold bx
 refine wpAny_bind (m:=cu _) ?_
 unfold cu
 refine wpAny_bind (wpAny_isInstance hT PySem.F.sub_list_set ?_)
 refine wpAny_isInstance hT PySem.F.sub_list_frozenset ?_
 rw [if_neg (by decide)]
 refine wpAny_bind (wpAny_typeOf hT ?_)
 rw [if_neg (by decide)]
 refine wpAny_bind (wpAny_pyIter_list hl ?_)
 have hz:s.heap.objs.size≠S:=fun z=>by
  obtain ⟨es,ep,t,ho,_⟩:=hS
  exact bO _ (z ▸ ay ho)
 have hzl:l≠s.heap.objs.size:=by
  obtain ⟨o,e,_⟩:=hl
  exact aE (ay e)
 refine wpAny_bind (wpAny_runValue (WA ((fL (A:=A.in1) hh _ l hzl items).toS) S ?_ ss (by rw [<-hi.length]; simp) (fun i v e=>Xj hi (by rw [bj]; exact e)) hb items.size 0 _ (by omega) (bB _) ⟨⟨_,ao _ rfl,rfl,rfl⟩,hl.push _⟩ ?_ ?_))
 ·intro z
  rcases ac.mp z with z | z
  ·exact hz z.symm
  ·exact hne (am.mp z).symm
 ·exact hS.at fun o e=>ae _ e
 ·intro s' hm hS'
  obtain ⟨h',g',d',tk',os'⟩:=s'
  have eg:g'=s.gens:=hm.gens
  have ed:d'=s.drawn:=hm.drawn
  have eo:os'=s.os:=hm.os
  subst eg ed eo
  refine wpAny_pure (h h' tk' hS' fun b o hb e=>hm.heap b o ?_ (ae _ e))
  intro z
  rcases ac.mp z with z | z
  ·exact hb z
  ·rw [am.mp z] at e
   exact bO _ (ay e)
theorem Xk {S l:Addr} {Q:Unit->Shared->Prop} (hh:A.handled=none) (hS:SetS prog w s.heap S []) (hl:s.heap.IsTuple l items) (hi:StrsAre items.toList ss) (hb:items.size+1 < scanBound) (hne:l≠S)
  (h:∀ h' tk,SetS prog w h' S (ss.foldl vF [])->(∀ b o,b≠S->s.heap.get? b=some o->h'.get? b=some o)->Q () { s with heap:=h',toks:=tk }) :
  wpAny (model prog w) A (bx "set.__init__" S (.ref l)) Q E s:=by
 have hT:s.TypeIs (.ref l) "tuple":=let ⟨o,e,c,_⟩:=hl; ⟨o,e,c⟩
 unfold bx
 refine wpAny_bind (m:=cu _) ?_
 unfold cu
 refine wpAny_bind (wpAny_isInstance hT Vb ?_)
 refine wpAny_isInstance hT gp ?_
 rw [if_neg (by decide)]
 refine wpAny_bind (wpAny_typeOf hT ?_)
 rw [if_neg (by decide)]
 refine wpAny_bind (wpAny_pyIter_tuple hl ?_)
 have hz:s.heap.objs.size≠S:=fun z=>by
  obtain ⟨es,ep,t,ho,_⟩:=hS
  exact bO _ (z ▸ ay ho)
 have hzl:l≠s.heap.objs.size:=by
  obtain ⟨o,e,_⟩:=hl
  exact aE (ay e)
 refine wpAny_bind (wpAny_runValue (WA ((Walks.tuple (A:=A.in1) hh _ l hzl items).toS) S ?_ ss (by rw [<-hi.length]; simp) (fun i v e=>Xj hi (by rw [bj]; exact e)) hb items.size 0 _ (by omega) (bB _) ⟨⟨_,ao _ rfl,rfl,rfl⟩,?_⟩ ?_ ?_))
 ·intro z
  rcases ac.mp z with z | z
  ·exact hz z.symm
  ·exact hne (am.mp z).symm
 ·obtain ⟨o,e,c⟩:=hl
  exact ⟨o,ae _ e,c⟩
 ·exact hS.at fun o e=>ae _ e
 ·intro s' hm hS'
  obtain ⟨h',g',d',tk',os'⟩:=s'
  have eg:g'=s.gens:=hm.gens
  have ed:d'=s.drawn:=hm.drawn
  have eo:os'=s.os:=hm.os
  subst eg ed eo
  refine wpAny_pure (h h' tk' hS' fun b o hb e=>hm.heap b o ?_ (ae _ e))
  intro z
  rcases ac.mp z with z | z
  ·exact hb z
  ·rw [am.mp z] at e
   exact bO _ (ay e)
set_option maxHeartbeats 3200000 in
theorem JM {l:Addr} {ks:List Str} {Q:Value->Shared->Prop}
  (hup:∀ (A1:Around) (Q1:Unit->Shared->Prop) (E1:Value->Shared->Prop),A1.handled=A.handled->(∀ h' tk,SetS prog w h' s.heap.objs.size ks->(∀ b o,s.heap.get? b=some o->h'.get? b=some o)->Q1 () { s with heap:=h',toks:=tk }) ->
   wpAny (model prog w) A1 (bx "set.__init__" s.heap.objs.size (.ref l)) Q1 E1 { s with heap:=s.heap.push (qeq w) })
  (h:∀ h' tk,SetS prog w h' s.heap.objs.size ks->(∀ b o,s.heap.get? b=some o->h'.get? b=some o)->Q (.ref s.heap.objs.size) { s with heap:=h',toks:=tk }) :
  wpAny (model prog w) A (call (.type "set") [.ref l]) Q E s:=by
 have hnew:∀ {Q₁:Value->Shared->Prop},Q₁ (.ref s.heap.objs.size) { s with heap:=s.heap.push (qeq w) }->codeAny (model prog w) A.in1 (.call (.builtin "set.__new__") ⟨[.type "set",.ref l],[]⟩) (wants Q₁ E) s:=fun h=>qcu (.ref l) h
 unfold qeq jT at hnew hup
 generalize (!(w.params.followText "set-order"))=led at hnew hup
 obtain ⟨c,tl,hmro⟩:=bR.mro
 have hmade:=bR.made
 have hsub:=bR.sub
 refine wpAny_call (codeAny_of_tree ?_); show wpAny _ _ (callAny (.type "set") _) _ _ _
 refine wpAny_pure ⟨Code.quiet_builtin _ (by decide +kernel),codeAny_builtin PySem.F.entry_type_call ?_⟩; rw [Around.under_plain (weight_type_call_type "set" [.ref l] []) rfl]
 have h1:=bR.notType
 have h2:=bR.canCreate
 have hct:=PySem.F.typeCall_set_1 (.ref l)
 repeat (any_goals (first | assumption | wp_step))
 refine codeAny_mono (hnew (Q₁:=fun obj s₁=>obj=.ref s.heap.objs.size/\s₁={ s with heap:=s.heap.push { cls:=.type "set",dict:=none,data:=.set #[] 0 (.fresh 0 0 led) } }) ⟨rfl,rfl⟩) fun r s₁ hr=>?_
 cases r with
 | error e=>exact hr
 | ok fl=>
  cases fl with
  | ret obj=>
   obtain ⟨rfl,rfl⟩:=hr
   have hS:(s.heap.push { cls:=.type "set",dict:=none,data:=.set #[] 0 (.fresh 0 0 led) }).get? s.heap.objs.size=some { cls:=.type "set",dict:=none,data:=.set #[] 0 (.fresh 0 0 led) }:=ao _ rfl
   have hT:fA { s with heap:=s.heap.push { cls:=.type "set",dict:=none,data:=.set #[] 0 (.fresh 0 0 led) } } (.ref s.heap.objs.size) "set":=⟨_,hS,rfl⟩
   have hli:=bR.init.lookup
   have hbi:=bR.init.bind (.ref s.heap.objs.size)
   repeat (any_goals (first | assumption | wp_step))
   refine codeAny_mono (codeAny_call_builtin (R:=wants (fun r s₂=>r=.none/\∃ h' tk,s₂={ s with heap:=h',toks:=tk }/\SetS prog w h' s.heap.objs.size ks/\(∀ b o,s.heap.get? b=some o->h'.get? b=some o)) E) bR.init.plain PySem.F.entry_set_init (check_set_init_1 hT ?_)) fun r₂ s₂ hr₂=>?_
   ·unfold Builtin.«set.__init__» noKeywords
    generalize hU:bx=U
    wp_walk
    subst hU
    refine hup _ _ _ rfl fun h' tk hS' hk=>?_
    exact wpAny_pure ⟨rfl,h',tk,rfl,hS',hk⟩
   ·cases r₂ with
    | error e=>exact hr₂
    | ok fl₂=>
     cases fl₂ with
     | ret r=>
      obtain ⟨rfl,h',tk,rfl,hS',hk'⟩:=hr₂
      repeat (any_goals (first | assumption | wp_step))
      exact h _ _ hS' hk'
     | _=>exact hr₂.elim
  | _=>exact hr.elim
end
theorem yV {α:Type}:∀ {xs:List α} {i:Nat} (h:i < xs.length),(xs[i]::xs.eraseIdx i).Perm xs
 | [],_,h=>absurd h (Nat.not_lt_zero _)
 | x::xs,0,h=>cr _
 | x::xs,i+1,h=>(List.Perm.swap _ _ _).trans ((yV (xs:=xs) (i:=i) (Nat.lt_of_succ_lt_succ h)).cons x)
variable {M:Model}
theorem UH {src:Source} {Q:Nat->Shared->Prop} (hn:n≠0) (h:∀ i d',i < n->Q i { s with drawn:=d' }):wpAny M A (choose src n) Q E s:=
 fun _ _ _=>⟨hn,h _ _ (Nat.mod_lt _ (Nat.pos_of_ne_zero hn))⟩
variable {α:Type}
theorem Xl:∀ (n:Nat) (xs:List α) (s:Shared) {Q:List α->Shared->Prop},n=xs.length->(∀ ys d',ys.Perm xs->Q ys { s with drawn:=d' })->wpAny M A (drawOrder n xs) Q E s
 | 0,xs,s,Q,hn,h=>by
  cases xs with
  | nil=>exact wpAny_pure (h [] s.drawn (cr _))
  | cons x l=>cases hn
 | n+1,[],s,Q,hn,h=>by cases hn
 | n+1,x::l,s,Q,hn,h=>by
  show wpAny M A (choose .order (x::l).length >>= _) Q E s
  refine wpAny_bind (UH (by simp) fun i d' hi=>?_)
  have e:(x::l)[i]?=some (x::l)[i]:=af hi
  rw [e]
  refine wpAny_bind (Xl n _ _ (by rw [List.length_eraseIdx_of_lt hi]; simp only [ap] at hn ⊢; omega) fun ys d2 hp=>wpAny_pure (h _ d2 ?_))
  exact (hp.cons _).trans (yV hi)
theorem Xm (next:Nat->Nat):∀ (f k:Nat) (left:List α) (out:Array α),f=left.length->(pickOrder.go next f k left out).toList.Perm (out.toList++left)
 | 0,k,left,out,hf=>by
  cases left with
  | nil=>
   rw [aZ]
   exact cr _
  | cons x l=>cases hf
 | f+1,k,left,out,hf=>by
  have hlt:next k % left.length < left.length:=Nat.mod_lt _ (by omega)
  have e:left[next k % left.length]?=some left[next k % left.length]:=af hlt
  unfold pickOrder.go
  rw [e]
  refine (Xm next f (k+1) _ _ (by rw [List.length_eraseIdx_of_lt hlt]; omega)).trans ?_
  rw [Array.toList_push,aV]
  exact List.Perm.append_left _ (yV hlt)
theorem zu (next:Nat->Nat) (xs:Array α):(pickOrder next xs).toList.Perm xs.toList:=by
 unfold pickOrder
 exact Xm next _ _ _ _ (by simp)
noncomputable def wH (first:Value) (i:Nat) (a:Addr) (n ep:Nat):Obj:={ cls:=.type "set_iterator",data:=.fields #[first,rawInt i,.ref a,rawInt n,rawInt ep] }
theorem slot_si_next:Slot "set_iterator" "__next__" "set_iterator.__next__":=
 .of (owner := "set_iterator") (n := "__next__") (by rw [typeLookup_type,builtinLookup_eq_fast]; kernel_rfl) (by decide +kernel) (by decide +kernel) (by decide +kernel) (by first | exact .inl (by decide +kernel) | exact .inr (by decide +kernel)) (by rw [isSubtype_type]; kernel_rfl)
theorem xx:Slot "set_iterator" "__iter__" "set_iterator.__iter__":=
 .of (owner := "set_iterator") (n := "__iter__") (by rw [typeLookup_type,builtinLookup_eq_fast]; kernel_rfl) (by decide +kernel) (by decide +kernel) (by decide +kernel) (by first | exact .inl (by decide +kernel) | exact .inr (by decide +kernel)) (by rw [isSubtype_type]; kernel_rfl)
theorem vh (a:Value):argsOk "set_iterator.__next__" ⟨[a],[]⟩:=by unfold argsOk; kernel_rfl
theorem JO (a:Value):argsOk "set_iterator.__iter__" ⟨[a],[]⟩:=by unfold argsOk; kernel_rfl
theorem kD:entryFor table "set_iterator.__next__"=some Builtin.«set_iterator.__next__»:=entryFor_of_tree (by kernel_rfl)
theorem Qe:entryFor table "set_iterator.__iter__"=some Builtin.«dict_keyiterator.__iter__»:=entryFor_alias (id' := "dict_keyiterator.__iter__") (by kernel_rfl) rfl (by decide +kernel) (by kernel_rfl)
theorem JP:entryFor table "set.__iter__"=some Builtin.«frozenset.__iter__»:=entryFor_alias (id' := "frozenset.__iter__") (by kernel_rfl) rfl (by decide +kernel) (by kernel_rfl)
variable {p it:Addr} {b:Bool} {ps:List Nat}
section
theorem kP (hb:w.params.followText "set-order"=b):({ program:=(model prog w).prog,params:=(model prog w).w.params }:Setting).params.followText "set-order"=b:=hb
theorem JQ {sl nx:Nat} {t:SetTable} {x:Value} {Q:Option Value->Shared->Prop} (hi:s.heap.get? it=some (wH (rawInt sl) i a n ep)) (ha:s.heap.get? a=some (jT es ep t)) (hf:t.fits es.size=true) (hz:es.size=n)
  (hn:∀ (A1:Around) (Q1:Option (Value×Nat)->Shared->Prop) (E1:Value->Shared->Prop),Q1 (some (x,nx)) s->wpAny (model prog w) A1 (setNext a sl i ep) Q1 E1 s)
  (hQ:∀ h',h'.get? it=some (wH (rawInt nx) (i+1) a n ep)->bQ it s.heap h'->Q (some x) { s with heap:=h' }):wpAny (model prog w) A (pyNext (.ref it)) Q E s:=by
 have hT:s.TypeIs (.ref it) "set_iterator":=⟨_,hi,rfl⟩
 unfold pyNext
 refine wpAny_bind (wpAny_attempt (wpAny_callSpecial?_slot (name:=aP "__next__") hT slot_si_next (wpAny_call_entry slot_si_next hT kD ?_ (vh _))))
 show wpAny _ _ (fieldsOf (.ref it) >>= _) _ _ s
 refine wpAny_bind (wpAny_fieldsOf hi rfl ?_)
 show wpAny _ _ (setEntries a >>= _) _ _ s
 refine wpAny_bind (wpAny_setEntries_of ha rfl hf ?_)
 rw [if_neg (by rw [hz]; simp)]
 show wpAny _ _ (setNext a sl i ep >>= _) _ _ s
 refine wpAny_bind (hn _ _ _ ?_)
 show wpAny _ _ (setField (.ref it) 0 (rawInt nx) >>= _) _ _ s
 refine wpAny_bind (wpAny_setField hi rfl (by simp) ?_)
 have h1:(s.heap.update it (Obj.mapFields (·.setIfInBounds 0 (rawInt nx)))).get? it=some (wH (rawInt nx) i a n ep):=aN _ hi rfl
 refine wpAny_bind (wpAny_setField h1 rfl (by simp) (wpAny_pure ⟨x,rfl,wpAny_pure (hQ _ ?_ ((bn ..).trans (bn ..)))⟩))
 exact aN _ h1 rfl
theorem JR {sl:Nat} {t:SetTable} {Q:Option Value->Shared->Prop} (hh:A.handled=none) (hi:s.heap.get? it=some (wH (rawInt sl) i a n ep)) (ha:s.heap.get? a=some (jT es ep t)) (hf:t.fits es.size=true) (hz:es.size=n)
  (hn:∀ (A1:Around) (Q1:Option (Value×Nat)->Shared->Prop) (E1:Value->Shared->Prop),Q1 none s->wpAny (model prog w) A1 (setNext a sl i ep) Q1 E1 s)
  (hQ:∀ h',fG it s.heap h'->Q none { s with heap:=h' }):wpAny (model prog w) A (pyNext (.ref it)) Q E s:=by
 have hT:s.TypeIs (.ref it) "set_iterator":=⟨_,hi,rfl⟩
 unfold pyNext
 refine wpAny_bind (wpAny_attempt (wpAny_callSpecial?_slot (name:=aP "__next__") hT slot_si_next (wpAny_call_entry slot_si_next hT kD ?_ (vh _))))
 show wpAny _ _ (fieldsOf (.ref it) >>= _) _ _ s
 refine wpAny_bind (wpAny_fieldsOf hi rfl ?_)
 show wpAny _ _ (setEntries a >>= _) _ _ s
 refine wpAny_bind (wpAny_setEntries_of ha rfl hf ?_)
 rw [if_neg (by rw [hz]; simp)]
 show wpAny _ _ (setNext a sl i ep >>= _) _ _ s
 refine wpAny_bind (hn _ _ _ ?_)
 show wpAny _ _ (setField (.ref it) 2 cq >>= _) _ _ s
 refine wpAny_bind (wpAny_setField hi rfl (by simp) ?_); show wpAny _ _ (newExc (.type "StopIteration") [] >>= _) _ _ _
 refine wpAny_bind ?_; simp only [newExc,newTuple]; refine wpAny_bind (wpAny_newObj_type ?_ (by size_fits))
 refine wpAny_bind (m:=firstArgMember _ _) (wpAny_of_eq (a:=cq) (by first | rfl | (simp only [firstArgMember]; rfl)) ?_); refine wpAny_newObj_type ?_ (by size_fits); simp only [raiseNew]
 refine wpAny_bind (wpAny_handled ?_); first | rw [show A.in1.handled=none from hh] | rw [hh]
 refine wpAny_bind (wpAny_pure (wpAny_throw ?_)); refine wpAny_bind (wpAny_isInstance (T := "StopIteration") (b:=true) ⟨_,ao _ rfl,rfl⟩ isSubtype_stop ?_)
 exact wpAny_pure (hQ _ (((bn ..).extBut.push _).push _))
theorem UI {pl m:Nat} {t:SetTable} {hx:Int} {x:Value} {ps:Array Value} {Q:Option Value->Shared->Prop} (hi:s.heap.get? it=some (wH (.ref p) i a n ep)) (ha:s.heap.get? a=some (jT es ep t)) (hf:t.fits es.size=true) (hz:es.size=n)
  (hp:s.heap.get? p=some { cls:=.type "tuple",data:=.seq ps m }) (hpl:ps[i]?=some (rawInt pl)) (hx:es[pl]?=some (hx,x))
  (hQ:∀ h',h'.get? it=some (wH (.ref p) (i+1) a n ep)->bQ it s.heap h'->Q (some x) { s with heap:=h' }):wpAny (model prog w) A (pyNext (.ref it)) Q E s:=by
 have hT:s.TypeIs (.ref it) "set_iterator":=⟨_,hi,rfl⟩
 unfold pyNext
 refine wpAny_bind (wpAny_attempt (wpAny_callSpecial?_slot (name:=aP "__next__") hT slot_si_next (wpAny_call_entry slot_si_next hT kD ?_ (vh _))))
 show wpAny _ _ (fieldsOf (.ref it) >>= _) _ _ s
 refine wpAny_bind (wpAny_fieldsOf hi rfl ?_)
 show wpAny _ _ (setEntries a >>= _) _ _ s
 refine wpAny_bind (wpAny_setEntries_of ha rfl hf ?_)
 rw [if_neg (by rw [hz]; simp)]
 show wpAny _ _ (seqItems? (.ref p) >>= _) _ _ s
 refine wpAny_bind (wpAny_seqItems hp rfl ?_)
 dsimp only
 rw [show ps[Int.toNat (i:Int)]?=some (rawInt pl) from hpl]
 show wpAny _ _ (setNextDrawn a pl ep >>= _) _ _ s
 refine wpAny_bind ?_
 unfold setNextDrawn
 refine wpAny_bind (wpAny_setState_of ha rfl hf ?_)
 dsimp only
 rw [if_neg (by simp),hx]
 refine wpAny_pure ?_
 show wpAny _ _ (setField (.ref it) 1 (rawInt (i+1)) >>= _) _ _ s
 refine wpAny_bind (wpAny_setField hi rfl (by simp) (wpAny_pure ⟨x,rfl,wpAny_pure (hQ _ ?_ (bn ..))⟩))
 exact aN _ hi rfl
theorem Xn {m:Nat} {t:SetTable} {ps:Array Value} {Q:Option Value->Shared->Prop} (hh:A.handled=none) (hi:s.heap.get? it=some (wH (.ref p) i a n ep)) (ha:s.heap.get? a=some (jT es ep t)) (hf:t.fits es.size=true) (hz:es.size=n)
  (hp:s.heap.get? p=some { cls:=.type "tuple",data:=.seq ps m }) (hpl:ps[i]?=none)
  (hQ:∀ h',fG it s.heap h'->Q none { s with heap:=h' }):wpAny (model prog w) A (pyNext (.ref it)) Q E s:=by
 have hT:s.TypeIs (.ref it) "set_iterator":=⟨_,hi,rfl⟩
 unfold pyNext
 refine wpAny_bind (wpAny_attempt (wpAny_callSpecial?_slot (name:=aP "__next__") hT slot_si_next (wpAny_call_entry slot_si_next hT kD ?_ (vh _))))
 show wpAny _ _ (fieldsOf (.ref it) >>= _) _ _ s
 refine wpAny_bind (wpAny_fieldsOf hi rfl ?_)
 show wpAny _ _ (setEntries a >>= _) _ _ s
 refine wpAny_bind (wpAny_setEntries_of ha rfl hf ?_)
 rw [if_neg (by rw [hz]; simp)]
 show wpAny _ _ (seqItems? (.ref p) >>= _) _ _ s
 refine wpAny_bind (wpAny_seqItems hp rfl ?_)
 dsimp only
 rw [show ps[Int.toNat (i:Int)]?=none from hpl]
 show wpAny _ _ (setField (.ref it) 0 (rawInt 0) >>= _) _ _ s
 refine wpAny_bind (wpAny_setField hi rfl (by simp) ?_)
 have h1:(s.heap.update it (Obj.mapFields (·.setIfInBounds 0 (rawInt 0)))).get? it=some (wH (rawInt 0) i a n ep):=aN _ hi rfl
 refine wpAny_bind (wpAny_setField h1 rfl (by simp) ?_); show wpAny _ _ (newExc (.type "StopIteration") [] >>= _) _ _ _
 refine wpAny_bind ?_; simp only [newExc,newTuple]; refine wpAny_bind (wpAny_newObj_type ?_ (by size_fits))
 refine wpAny_bind (m:=firstArgMember _ _) (wpAny_of_eq (a:=cq) (by first | rfl | (simp only [firstArgMember]; rfl)) ?_); refine wpAny_newObj_type ?_ (by size_fits); simp only [raiseNew]
 refine wpAny_bind (wpAny_handled ?_); first | rw [show A.in1.handled=none from hh] | rw [hh]
 refine wpAny_bind (wpAny_pure (wpAny_throw ?_)); refine wpAny_bind (wpAny_isInstance (T := "StopIteration") (b:=true) ⟨_,ao _ rfl,rfl⟩ isSubtype_stop ?_)
 exact wpAny_pure (hQ _ (((((bn ..).trans (bn ..))).extBut.push _).push _))
theorem zv {o:Obj} {Q:Value->Shared->Prop} (hi:s.heap.get? it=some o) (hc:o.cls=.type "set_iterator") (h:Q (.ref it) s):wpAny (model prog w) A (pyIter (.ref it)) Q E s:=by
 have hT:s.TypeIs (.ref it) "set_iterator":=⟨_,hi,hc⟩
 refine wpAny_pyIter_slot hT xx (wpAny_call_entry xx hT Qe ?_ (JO _)); show wpAny _ _ (ret (.ref it)) _ _ s
 exact wpAny_pure ⟨_,rfl, "set_iterator",_,hT,slot_si_next.lookup,h⟩
theorem Xo {ep:Nat} {t:SetTable} (hh:A.handled=none) (hb:w.params.followText "set-order"=true) (hf:t.fits es.size=true) (hne:a≠it) :
  Walks prog w A it [it,a] [it] es.size (fun i v=>((pickOrder (w.params.setOrder a ep) es).toList.map (·.2))[i]?=some v) (fun i h=>h.get? it=some (wH (rawInt 0) i a es.size ep)/\h.get? a=some (jT es ep t)) where
 sub:=fun b hb=>by simp at hb; simp [hb]
 frame:=fun _ _ _ st hk=>⟨hk it (by simp) _ st.1,hk a (by simp) _ st.2⟩
 item:=fun i s Q E hi st hQ=>by
  have hlen:(pickOrder (w.params.setOrder a ep) es).size=es.size:=by
   have:=(zu (w.params.setOrder a ep) es).length_eq
   simpa using this
  have hlt:i < (pickOrder (w.params.setOrder a ep) es).size:=by omega
  obtain ⟨e,he⟩:∃ e,(pickOrder (w.params.setOrder a ep) es)[i]?=some e:=⟨_,bK hlt⟩
  refine JQ (x:=e.2) (nx:=0) st.1 st.2 hf rfl (fun A1 Q1 E1 q=>?_) fun h' hi' sb=>hQ e.2 h' s.toks ?_ ⟨hi',?_⟩ fun b o nb eo=>?_
  ·unfold setNext
   refine wpAny_bind (wpAny_setState_of st.2 rfl hf ?_)
   dsimp only
   refine wpAny_bind (m:=setsByText) (wpAny_bind (wpAny_askSetting (wpAny_pure ?_)))
   rw [kP hb,if_pos rfl,if_neg (by simp)]
   refine wpAny_bind ?_
   unfold setWalk
   refine wpAny_bind (wpAny_setState_of st.2 rfl hf ?_)
   dsimp only
   refine wpAny_bind (m:=setsByText) (wpAny_bind (wpAny_askSetting (wpAny_pure ?_)))
   rw [kP hb,if_pos rfl]
   refine wpAny_bind (wpAny_askSetting (wpAny_pure ?_))
   refine wpAny_pure ?_
   rw [show (pickOrder ((⟨(model prog w).prog,(model prog w).w.params⟩:Setting).params.setOrder a ep) es)[i]?=some e from he]
   exact q
  ·rw [aG,bj,he]
   rfl
  ·rw [sb.2 a hne]
   exact st.2
  ·rw [sb.2 b (fun z=>nb (by simp [z]))]
   exact eo
 done:=fun s Q E st hQ=>by
  have hlen:(pickOrder (w.params.setOrder a ep) es).size=es.size:=by
   have:=(zu (w.params.setOrder a ep) es).length_eq
   simpa using this
  refine JR hh st.1 st.2 hf rfl (fun A1 Q1 E1 q=>?_) fun h' eb=>hQ h' s.toks fun b o nb eo=>eb b o (fun z=>nb (by simp [z])) eo
  unfold setNext
  refine wpAny_bind (wpAny_setState_of st.2 rfl hf ?_)
  dsimp only
  refine wpAny_bind (m:=setsByText) (wpAny_bind (wpAny_askSetting (wpAny_pure ?_)))
  rw [kP hb,if_pos rfl,if_neg (by simp)]
  refine wpAny_bind ?_
  unfold setWalk
  refine wpAny_bind (wpAny_setState_of st.2 rfl hf ?_)
  dsimp only
  refine wpAny_bind (m:=setsByText) (wpAny_bind (wpAny_askSetting (wpAny_pure ?_)))
  rw [kP hb,if_pos rfl]
  refine wpAny_bind (wpAny_askSetting (wpAny_pure ?_))
  refine wpAny_pure ?_
  rw [show (pickOrder ((⟨(model prog w).prog,(model prog w).w.params⟩:Setting).params.setOrder a ep) es)[es.size]?=none from cQ (eh hlen)]
  exact q
 self:=fun i s Q E st hQ=>zv st.1 rfl hQ
noncomputable def uM (t:SetTable) (i:Nat):Nat:=if i=0 then 0 else t.place.getD 0 0+1
theorem JS (j k:Nat):br #[j] k=if j < k then 1 else 0:=by
 unfold br
 show br.go #[j] k 1 0 1=_
 unfold br.go
 rw [if_pos (by omega)]
 show (if (#[j]:Array Nat).getD 0 k < k then br.go #[j] k 0 1 1 else br.go #[j] k 0 0 0)=_
 show (if j < k then br.go #[j] k 0 1 1 else br.go #[j] k 0 0 0)=_
 split <;> rfl
theorem WB {t:SetTable} {Q:Option (Value×Nat)->Shared->Prop} (hb:w.params.followText "set-order"=false) (hf:t.fits es.size=true) (hl:t.led=true) (hz:es.size<=1) (ha:s.heap.get? a=some (jT es ep t)) (hi:i<=es.size)
  (q:Q (match es[i]? with | some e=>some (e.2,uM t (i+1)) | none=>none) s):wpAny (model prog w) A (setNext a (uM t i) i ep) Q E s:=by
 have hps:t.place.size=es.size:=by
  have:=hf
  simp only [SetTable.fits,aO,beq_iff_eq] at this
  exact this.1
 unfold setNext
 refine wpAny_bind (wpAny_setState_of ha rfl hf ?_)
 dsimp only
 refine wpAny_bind (m:=setsByText) (wpAny_bind (wpAny_askSetting (wpAny_pure ?_)))
 rw [kP hb,if_neg (by simp)]
 show wpAny _ _ (if (!t.plain&&decide (es.size > 1))=true then _ else _) _ _ _
 rw [if_neg (by simp; intro _; omega)]
 refine wpAny_bind ?_
 show wpAny _ _ (if (!t.led&&!es.isEmpty)=true then _ else _) _ _ _
 rw [hl,if_neg (by simp)]
 refine wpAny_pure (wpAny_pure ?_)
 have e:(match es[br t.place (uM t i)]?,t.place[br t.place (uM t i)]? with | some (_,x),some j=>some (x,j+1) | _,_=>none)=(match es[i]? with | some e=>some (e.2,uM t (i+1)) | none=>none:Option (Value×Nat)):=by
  obtain ⟨l⟩:=es
  obtain ⟨mask,⟨pl⟩,du,fi,le,mo,pn⟩:=t
  cases l with
  | nil=>simp
  | cons e0 l=>
   cases l with
   | cons _ _=>exact absurd hz (by simp)
   | nil=>
    cases pl with
    | nil=>exact absurd hps (by simp)
    | cons j pl=>
     cases pl with
     | cons _ _=>exact absurd hps (by simp)
     | nil=>
      have hi1:i=0\/i=1:=by simp at hi; omega
      rcases hi1 with rfl | rfl
      ·show (match (#[e0]:Array (Int×Value))[br #[j] 0]?,(#[j]:Array Nat)[br #[j] 0]? with | some (_,x),some j=>some (x,j+1) | _,_=>none)=some (e0.2,j+1)
       rw [JS,if_neg (by omega)]
       rfl
      ·show (match (#[e0]:Array (Int×Value))[br #[j] (j+1)]?,(#[j]:Array Nat)[br #[j] (j+1)]? with | some (_,x),some j=>some (x,j+1) | _,_=>none)=none
       rw [JS,if_pos (by omega)]
       rfl
 exact Eq.mp (congrArg (fun z=>Q z s) e.symm) q
theorem GU {ep:Nat} {t:SetTable} (hh:A.handled=none) (hb:w.params.followText "set-order"=false) (hf:t.fits es.size=true) (hl:t.led=true) (hz:es.size<=1) (hne:a≠it) :
  Walks prog w A it [it,a] [it] es.size (fun i v=>(es.toList.map (·.2))[i]?=some v) (fun i h=>h.get? it=some (wH (rawInt (uM t i)) i a es.size ep)/\h.get? a=some (jT es ep t)) where
 sub:=fun b hb=>by simp at hb; simp [hb]
 frame:=fun _ _ _ st hk=>⟨hk it (by simp) _ st.1,hk a (by simp) _ st.2⟩
 item:=fun i s Q E hi st hQ=>by
  have he:es[i]?=some es[i]:=bK hi
  refine JQ (x:=es[i].2) (nx:=uM t (i+1)) st.1 st.2 hf rfl (fun A1 Q1 E1 q=>WB hb hf hl hz st.2 (dF hi) (by rw [he]; exact q)) fun h' hi' sb=>hQ es[i].2 h' s.toks ?_ ⟨hi',?_⟩ fun b o nb eo=>?_
  ·rw [aG,bj,he]
   rfl
  ·rw [sb.2 a hne]
   exact st.2
  ·rw [sb.2 b (fun z=>nb (by simp [z]))]
   exact eo
 done:=fun s Q E st hQ=>JR hh st.1 st.2 hf rfl (fun A1 Q1 E1 q=>WB hb hf hl hz st.2 (ax _) (by rw [cQ (ax _)]; exact q)) fun h' eb=>hQ h' s.toks fun b o nb eo=>eb b o (fun z=>nb (by simp [z])) eo
 self:=fun i s Q E st hQ=>zv st.1 rfl hQ
noncomputable def qer (es:Array (Int×Value)) (ps:List Nat):List Value:=ps.map fun k=>(es[k]?.map (·.2)).getD .none
theorem Xp (h:ps.Perm (aF es.size)):(qer es ps).Perm (es.toList.map (·.2)):=by
 have e:qer es (aF es.size)=es.toList.map (·.2):=by
  apply dJ
  intro i
  unfold qer
  rw [aG,aG,show es.toList[i]?=es[i]? from bj]
  by_cases hi:i < es.size
  ·rw [d9 hi,bK hi]
   simp [hi]
  ·rw [bZ (by rw [bD]; omega),cQ (by omega)]
   rfl
 rw [<-e]
 exact h.map _
theorem UJ {ep m:Nat} {t:SetTable} (hh:A.handled=none) (hf:t.fits es.size=true) (hp:ps.Perm (aF es.size)) (hne:a≠it) (hpe:p≠it) :
  Walks prog w A it [it,a,p] [it] es.size (fun i v=>(qer es ps)[i]?=some v) (fun i h=>h.get? it=some (wH (.ref p) i a es.size ep)/\h.get? a=some (jT es ep t)/\h.get? p=some { cls:=.type "tuple",data:=.seq (ps.map fun (i:Nat)=>rawInt i).toArray m }) where
 sub:=fun b hb=>by simp at hb; simp [hb]
 frame:=fun _ _ _ st hk=>⟨hk it (by simp) _ st.1,hk a (by simp) _ st.2.1,hk p (by simp) _ st.2.2⟩
 item:=fun i s Q E hi st hQ=>by
  have hlen:ps.length=es.size:=by rw [hp.length_eq,bD]
  have hil:i < ps.length:=by omega
  have hk:ps[i] < es.size:=aL.mp (hp.mem_iff.mp (bq hil))
  have he:es[ps[i]]?=some es[ps[i]]:=bK hk
  refine UI (x:=es[ps[i]].2) (hx:=es[ps[i]].1) (pl:=ps[i]) st.1 st.2.1 hf rfl st.2.2 ?_ he fun h' hi' sb=>hQ es[ps[i]].2 h' s.toks ?_ ⟨hi',?_,?_⟩ fun b o nb eo=>?_
  ·rw [dP,aG,af hil]
   rfl
  ·unfold qer
   rw [aG,af hil]
   simp [he]
  ·rw [sb.2 a hne]
   exact st.2.1
  ·rw [sb.2 p hpe]
   exact st.2.2
  ·rw [sb.2 b (fun z=>nb (by simp [z]))]
   exact eo
 done:=fun s Q E st hQ=>by
  have hlen:ps.length=es.size:=by rw [hp.length_eq,bD]
  refine Xn hh st.1 st.2.1 hf rfl st.2.2 ?_ fun h' eb=>hQ h' s.toks fun b o nb eo=>eb b o (fun z=>nb (by simp [z])) eo
  rw [dP,bZ (by simp; omega)]
 self:=fun i s Q E st hQ=>zv st.1 rfl hQ
theorem GV {t:SetTable} {A1:Around} {Q:Value->Shared->Prop} (hh:A1.handled=none) (ha:s.heap.get? a=some (jT es ep t)) (d:SetD prog w es t ks)
  (hQ:∀ (it:Addr) (h':Heap) (dr:Drawn) (ord:List Value) (fp:List Addr) (St:Nat->Heap->Prop),(∀ b o,s.heap.get? b=some o->h'.get? b=some o)->ord.Perm (es.toList.map (·.2))->Walks prog w A1 it fp [it] es.size (fun i v=>ord[i]?=some v) St->St 0 h' ->
   (∀ b∈fp,b=a\/s.heap.objs.size<=b)->s.heap.objs.size<=it->Q (.ref it) { s with heap:=h',drawn:=dr }):wpAny (model prog w) A (pyIter (.ref a)) Q E s:=by
 have hT:s.TypeIs (.ref a) "set":=⟨_,ha,rfl⟩
 have hlt:a < s.heap.objs.size:=ay ha
 refine wpAny_pyIter_slot hT PySem.F.slot_set_iter (wpAny_call_entry PySem.F.slot_set_iter hT JP ?_ (PySem.F.args_set_iter_1 _))
 show wpAny _ _ (Builtin.Frozenset.sizeOf a >>= _) _ _ s
 refine wpAny_bind (m:=Builtin.Frozenset.sizeOf a) (wpAny_bind (wpAny_setEntries_of ha rfl d.fits (wpAny_pure ?_)))
 refine wpAny_bind (m:=setDrawn a) ?_
 unfold setDrawn
 refine wpAny_bind (wpAny_setState_of ha rfl d.fits ?_)
 dsimp only
 refine wpAny_bind (m:=setsByText) (wpAny_bind (wpAny_askSetting (wpAny_pure ?_)))
 refine wpAny_pure ?_
 cases hb:w.params.followText "set-order" with
 | true=>
  rw [kP hb,if_neg (by simp)]
  refine wpAny_bind (wpAny_pure ?_)
  refine wpAny_bind (m:=setEpoch a) (wpAny_setEpoch_of ha rfl d.fits ?_)
  refine wpAny_bind (wpAny_newObj_type (wpAny_pure ⟨_,rfl, "set_iterator",_,⟨_,ao _ rfl,rfl⟩,slot_si_next.lookup,?_⟩))
  refine hQ _ _ s.drawn _ _ _ (fun b o e=>ae _ e) ((zu (w.params.setOrder a ep) es).map _) (Xo hh hb d.fits (aE hlt)) ⟨ao _ rfl,ae _ ha⟩ ?_ (ax _)
  intro b hb
  rcases ac.mp hb with z | z
  ·exact .inr (z ▸ ax _)
  ·exact .inl (am.mp z)
 | false=>
  have hled:t.led=true:=by rw [d.led,hb]; rfl
  rw [kP hb]
  show wpAny _ _ (if (!false&&(!t.plain&&decide (es.size > 1)))=true then _ else _) _ _ _
  by_cases hn:es.size<=1
  ·rw [if_neg (by simp; intro _; omega)]
   refine wpAny_bind (wpAny_pure ?_)
   refine wpAny_bind (m:=setEpoch a) (wpAny_setEpoch_of ha rfl d.fits ?_)
   refine wpAny_bind (wpAny_newObj_type (wpAny_pure ⟨_,rfl, "set_iterator",_,⟨_,ao _ rfl,rfl⟩,slot_si_next.lookup,?_⟩))
   refine hQ _ _ s.drawn _ _ _ (fun b o e=>ae _ e) (cr _) (GU hh hb d.fits hled hn (aE hlt)) ⟨ao _ rfl,ae _ ha⟩ ?_ (ax _)
   intro b hb
   rcases ac.mp hb with z | z
   ·exact .inr (z ▸ ax _)
   ·exact .inl (am.mp z)
  ·have hpl:t.plain=false:=d.plain fun z=>by
    have h0:=d.size
    rw [z,ba] at h0
    omega
   rw [if_pos (by rw [hpl]; simp; omega)]
   refine wpAny_bind (Xl es.size (aF es.size) s (by simp) fun ps dr hp=>?_)
   have hpl2:ps.length=es.size:=by rw [hp.length_eq,bD]
   have hsz:(ps.map fun (i:Nat)=>rawInt i).length<=sizeLine:=by rw [au,hpl2]; exact fits_of_scanBound d.bd
   refine wpAny_bind (wpAny_newTuple ?_ hsz)
   refine wpAny_bind (m:=setEpoch a) (wpAny_setEpoch_of (ae _ ha) rfl d.fits ?_)
   refine wpAny_bind (wpAny_newObj_type (wpAny_pure ⟨_,rfl, "set_iterator",_,⟨_,ao _ rfl,rfl⟩,slot_si_next.lookup,?_⟩))
   have hp1:s.heap.objs.size < (s.heap.push ({ cls:=.type "tuple",data:=.seq (ps.map fun (i:Nat)=>rawInt i).toArray }:Obj)).objs.size:=by rw [bP]; exact Nat.lt_succ_self _
   refine hQ _ _ dr _ _ _ (fun b o e=>ae _ (ae _ e)) (Xp hp) (UJ (p:=s.heap.objs.size) hh d.fits hp (aE (eZ hlt hp1)) (aE hp1)) ⟨ao _ rfl,ae _ (ae _ ha),ae _ (ao _ rfl)⟩ ?_ (dF hp1)
   intro b hb
   rcases ac.mp hb with z | z
   ·exact .inr (z ▸ dF hp1)
   ·rcases ac.mp z with z | z
    ·exact .inl z
    ·exact .inr (eh (am.mp z).symm)
end
section
theorem GW {ord:List Value} {acc:Array Value} (hl:ord.length=n) (h:ItemsOf (fun i v=>ord[i]?=some v) acc n):acc.toList=ord:=by
 apply dJ
 intro i
 rw [show acc.toList[i]?=acc[i]? from bj]
 by_cases hi:i < acc.size
 ·rw [bK hi]
  exact (h.2 i _ (bK hi)).symm
 ·rw [cQ (by omega),bZ (by have:=h.1; omega)]
theorem Vc {t:SetTable} {Q:List Value->Shared->Prop} (hh:A.handled=none) (ha:s.heap.get? a=some (jT es ep t)) (d:SetD prog w es t ks)
  (hQ:∀ h' dr tk ord,(∀ b o,s.heap.get? b=some o->h'.get? b=some o)->ord.Perm (es.toList.map (·.2))->Q ord { s with heap:=h',drawn:=dr,toks:=tk }):wpAny (model prog w) A (collect (.ref a)) Q E s:=by
 have hlt:a < s.heap.objs.size:=ay ha
 unfold collect
 refine wpAny_bind (wpAny_runValue (codeAny_builtin PySem.F.entry_proto_collect ?_)); rw [be PySem.F.plain_proto_collect _]
 show wpAny _ A.in1 (newList [] >>= fun l=>again (.builtin "list.__iadd__" ⟨[l,.ref a],[]⟩)) _ _ s; refine wpAny_bind (wpAny_newObj_type ?_)
 refine wpAny_pure ⟨plainId_quiet PySem.F.plain_list_iadd _,codeAny_builtin PySem.F.entry_list_iadd ?_⟩; rw [be PySem.F.plain_list_iadd _]
 have ha1:(s.heap.push { cls:=.type "list",data:=.seq ([]:List Value).toArray }).get? a=some (jT es ep t):=ae _ ha
 have hT:fA { s with heap:=s.heap.push { cls:=.type "list",data:=.seq ([]:List Value).toArray } } (.ref a) "set":=⟨_,ha1,rfl⟩
 show wpAny _ A.in1 (bi (.ref s.heap.objs.size) (.ref a) (.ref s.heap.objs.size)) _ _ _; unfold bi
 refine wpAny_bind (wpAny_typeOf hT ?_)
 have h1:cH (.ref s.heap.objs.size) (.ref a)=false:=by simp [cH,c7 hlt]
 rw [if_neg (by rw [h1]; decide)]
 refine wpAny_bind (GV (A1:=A.in1) hh ha1 d fun it h2 dr ord fp St k2 hp W hst hfp hit=>?_)
 have hS1:h2.get? s.heap.objs.size=some { cls:=.type "list",data:=.seq ([]:List Value).toArray }:=k2 _ _ (ao _ rfl)
 have ha2:h2.get? a=some (jT es ep t):=k2 _ _ ha1
 refine wpAny_bind (wpAny_holding ?_)
 unfold Builtin.List.listLengthHint
 have hT2:fA { s with heap:=h2,drawn:=dr } (.ref a) "set":=⟨_,ha2,rfl⟩
 refine wpAny_bind (wpAny_specialOf hT2 PySem.F.slot_set_len.lookup ?_)
 (generalize hid:("set.__len__":String)=id0; (fail_if_success (clear hid id0)); wp_delta; rw [show splitId id0=some ("set", "__len__") from by subst hid; decide +kernel]; subst hid)
 refine wpAny_bind (wpAny_isInstance (b:=true) hT2 (by rw [isSubtype_type]; kernel_rfl) ?_)
 refine wpAny_bind (m:=typeOf (.ref a)) (wpAny_typeOf hT2 ?_)
 refine wpAny_pure ?_
 show wpAny _ A.in1 (rule "list.extend.makes-room" >>= fun _=>Builtin.List.listTouch (.ref s.heap.objs.size) >>= fun _=>again (.builtin "list.extend.loop" ⟨[.ref s.heap.objs.size,.ref it,.ref s.heap.objs.size],[]⟩)) _ _ _
 refine wpAny_bind (wpAny_rule (wpAny_bind ?_)); show wpAny _ A.in1 (updateSeq s.heap.objs.size (·.push .none) >>= fun _=>updateSeq s.heap.objs.size (·.pop)) _ _ _
 refine wpAny_bind (wpAny_updateSeq hS1 rfl ?_); have hS₂:=aN (cE (·.push cq)) hS1 rfl
 refine wpAny_updateSeq hS₂ rfl ?_; have hS₃:=aN (cE (·.pop)) hS₂ rfl
 have hzs:(s.heap.push ({ cls:=.type "list",data:=.seq ([]:List Value).toArray }:Obj)).objs.size=s.heap.objs.size+1:=bP ..
 have oth:∀ b o,b≠s.heap.objs.size->h2.get? b=some o->((h2.update s.heap.objs.size (cE (·.push cq))).update s.heap.objs.size (cE (·.pop))).get? b=some o:=fun b o hb e=>(aS _ _ (bv hb)).trans ((aS _ _ (bv hb)).trans e)
 have nf:s.heap.objs.size∉fp:=fun z=>by
  rcases hfp _ z with q | q
  ·exact c7 hlt q
  ·exact Nat.not_succ_le_self _ (hzs ▸ q)
 have hlen:ord.length=es.size:=by
  rw [hp.length_eq]
  simp
 refine wpAny_pure ⟨plainId_quiet PySem.F.plain_extend_loop _,codeAny_extend_loopS W.toS (fits_of_scanBound d.bd) _ nf _ es.size 0 _ _ _ rfl (bB _) (W.frame 0 h2 _ hst fun b hb o e=>oth b o (fun z=>nf (z ▸ hb)) e) hS₃ (ItemsOf.nil _) fun s' acc' c' hm hS' hacc=>?_⟩
 show wpAny _ A (load s.heap.objs.size >>= _) _ _ s'
 refine wpAny_bind (wpAny_load hS' (wpAny_pure ?_))
 rw [GW hlen hacc]
 obtain ⟨h',g',d',tk',os'⟩:=s'
 have eg:g'=s.gens:=hm.gens
 have ed:d'=dr:=hm.drawn
 have eo:os'=s.os:=hm.os
 subst eg ed eo
 refine hQ h' d' tk' ord (fun b o e=>?_) hp
 have hb:=ay e
 refine hm.heap b o (fun z=>?_) (oth b o (aE hb) (k2 b o (ae _ e)))
 rcases ac.mp z with z | z
 ·exact aE hb z
 ·have h3:s.heap.objs.size+1<=it:=hzs ▸ hit
  rw [<-am.mp z] at h3
  exact bO _ (eZ hb h3)
theorem UK {Q:Value->Shared->Prop} (hh:A.handled=none) (hS:SetS prog w s.heap a ks) (h64:ks.length < 64)
  (hQ:∀ (h1 h':Heap) dr tk vs e ss,(∀ b o,s.heap.get? b=some o->h1.get? b=some o)->(∀ b o,h1.get? b=some o->h'.get? b=some o)->h'.get? h1.objs.size=some (seqObj "list" vs e)->StrsAre vs.toList ss->ss.Perm ks->sortedS ss=true->Q (.ref h1.objs.size) { s with heap:=h',drawn:=dr,toks:=tk }) :
  wpAny (model prog w) A (call (.builtin "sorted") [.ref a]) Q E s:=by
 obtain ⟨es,ep,t,ha,d⟩:=hS
 refine Calls.call_function_entry kind_sorted plain_sorted entry_sorted (args_sorted1 _) ?_; unfold Builtin.«sorted»
 refine wpAny_bind (m:=checkCount "sorted" 1 1 _) (wpAny_pure ?_)
 refine wpAny_bind (Vc (by exact hh) ha d fun h1 dr tk ord k1 hp=>?_)
 have hst:StrsAre ord (ord.map strOf):=strsAre_map ord fun v hv=>by
  obtain ⟨e,he,rfl⟩:=aj.mp (hp.mem_iff.mp hv)
  exact Xi d.el he
 have hpk:(ord.map strOf).Perm ks:=(hp.map strOf).trans (by rw [bo]; exact d.perm)
 have hlen:ord.length=ks.length:=by
  have:=hpk.length_eq
  rwa [au] at this
 refine wpAny_bind (wpAny_newList ?_ (by rw [hlen,sizeLine_eq]; omega))
 have hoL:(h1.push (seqObj "list" ord.toArray 0)).get? h1.objs.size=some (seqObj "list" ord.toArray 0):=ao _ rfl
 refine wpAny_bind (wpAny_holding (wpAny_call_entry slot_list_sort (s:={ s with heap:=h1.push (seqObj "list" ord.toArray 0),drawn:=dr,toks:=tk }) ⟨_,hoL,rfl⟩ entry_list_sort (list_sort_treeK strKind_oneLt hoL hst.keysOf (fun v₁ v₂ rest e=>keyKind_strs (by rw [<-e]; exact hst)) (by rw [hlen]; exact h64) fun st' a1 a2=>⟨_,rfl,?_⟩) (args_list_sort _)))
 obtain ⟨ss',b1,b2,b3⟩:=sorted_out_str hst a1 a2
 obtain ⟨e,he⟩:=sortedHeap_at (out:=(arrOf st').map (·.2)) hoL
 refine wpAny_pure ⟨_,rfl,hQ h1 _ dr tk _ e ss' k1 (fun b o eb=>?_) he b1 (b2.trans hpk) b3⟩
 have hb:=ay eb
 rw [sortedHeap_old (aE hb) (by rw [bP]; exact eI hb)]
 exact ae _ eb
end
section
theorem JT {l:Addr} {x:Value} {Q:Value->Shared->Prop} (hit:s.heap.IsTupleIter it l i) (hl:s.heap.IsTuple l items) (hx:items[i]?=some x)
  (hQ:∀ h',h'.IsTupleIter it l (i+1)->bQ it s.heap h'->Q x { s with heap:=h' }):wpAny (model prog w) A (cw (.ref it)) Q E s:=by
 obtain ⟨o,ho,hc,hd⟩:=id hit
 obtain ⟨ol,hol,_,nl,hdl⟩:=hl
 unfold cw
 refine wpAny_bind (wpAny_callSpecial?_slot (name:=aP "__next__") hit.typeIs bU (wpAny_call_entry bU hit.typeIs PySem.F.entry_tuple_iterator_next ?_ (PySem.F.args_tuple_iterator_next_1 _))); show wpAny _ _ (field (.ref it) 0 >>= _) _ _ s
 refine wpAny_bind (wpAny_field ho hd (x:=.ref l) rfl ?_); show wpAny _ _ (if (cf l == cq)=true then _ else _) _ _ s
 rw [if_neg (show ¬((cf l == cq)=true) from bf)]; show wpAny _ _ (field (.ref it) 1 >>= _) _ _ s
 refine wpAny_bind (wpAny_field ho hd (x:=.int i 0) rfl ?_); show wpAny _ _ (seqItems? (.ref l) >>= _) _ _ s
 refine wpAny_bind (wpAny_seqItems hol hdl ?_); simp only [cB,hx]
 refine wpAny_bind (wpAny_setField ho hd (by simp) (wpAny_pure ⟨x,rfl,wpAny_pure (hQ _ ?_ (bn ..))⟩)); exact ⟨_,aN _ ho (Obj.isFreed_of_fields (Obj.data_mapFields hd _)),(Obj.cls_mapFields ..).trans hc,by rw [Obj.data_mapFields hd]; simp [rawInt]⟩
theorem xI {l:Addr} {Q:Value->Shared->Prop} (hh:A.handled=none) (hit:s.heap.IsTupleIter it l i) (hl:s.heap.IsTuple l items) (hx:items[i]?=none)
  (hE:∀ h' e,fG it s.heap h'->(∃ o,h'.get? e=some o/\o.cls=.type "StopIteration")->E (.ref e) { s with heap:=h' }):wpAny (model prog w) A (cw (.ref it)) Q E s:=by
 obtain ⟨o,ho,hc,hd⟩:=id hit
 obtain ⟨ol,hol,_,nl,hdl⟩:=hl
 unfold cw
 refine wpAny_bind (wpAny_callSpecial?_slot (name:=aP "__next__") hit.typeIs bU (wpAny_call_entry bU hit.typeIs PySem.F.entry_tuple_iterator_next ?_ (PySem.F.args_tuple_iterator_next_1 _))); show wpAny _ _ (field (.ref it) 0 >>= _) _ _ s
 refine wpAny_bind (wpAny_field ho hd (x:=.ref l) rfl ?_); show wpAny _ _ (if (cf l == cq)=true then _ else _) _ _ s
 rw [if_neg (show ¬((cf l == cq)=true) from bf)]; show wpAny _ _ (field (.ref it) 1 >>= _) _ _ s
 refine wpAny_bind (wpAny_field ho hd (x:=.int i 0) rfl ?_); show wpAny _ _ (seqItems? (.ref l) >>= _) _ _ s
 refine wpAny_bind (wpAny_seqItems hol hdl ?_); simp only [cB,hx]
 refine wpAny_bind (wpAny_rule (wpAny_bind (wpAny_setField ho hd (by simp) ?_))); show wpAny _ _ (newExc (.type "StopIteration") [] >>= _) _ _ _
 refine wpAny_bind ?_; simp only [newExc,newTuple]; refine wpAny_bind (wpAny_newObj_type ?_ (by size_fits))
 refine wpAny_bind (m:=firstArgMember _ _) (wpAny_of_eq (a:=cq) (by first | rfl | (simp only [firstArgMember]; rfl)) ?_); refine wpAny_newObj_type ?_ (by size_fits); simp only [raiseNew]
 refine wpAny_bind (wpAny_handled ?_); first | rw [show A.in1.handled=none from hh] | rw [hh]
 refine wpAny_bind (wpAny_pure (wpAny_throw ?_)); exact hE _ _ (((bn ..).extBut.push _).push _) ⟨_,ao _ rfl,rfl⟩
theorem zw (hh:A.handled=none) (it l:Addr) (hne:l≠it) (items:Array Value):Draws prog w A it [it,l] items.size (fun i v=>items[i]?=some v) (fun i h=>h.IsTupleIter it l i/\h.IsTuple l items) where
 live:=fun _ _ st=>let ⟨o,ho,_⟩:=st.1; ⟨o,ho⟩
 frame:=fun _ _ _ st hk=>⟨st.1.at fun o e=>hk it (by simp) o e,let ⟨o,e,c⟩:=st.2; ⟨o,hk l (by simp) o e,c⟩⟩
 item:=fun i s Q E hi st hQ=>by
  refine JT st.1 st.2 (x:=items[i]) (by simp [hi]) fun h' hit' hs'=>hQ _ h' s.toks (by simp [hi]) ⟨hit',?_⟩ hs'
  obtain ⟨o,e,c⟩:=st.2
  exact ⟨o,(hs'.2 l hne).trans e,c⟩
 done:=fun s Q E st hE=>xI hh st.1 st.2 (by simp) hE
variable {z TI TO i1 i2:Addr} {fp1 fp2:List Addr} {n1 n2:Nat} {P1 P2:Nat->Value->Prop} {S1 S2:Nat->Heap->Prop} {a b:Value}
end
inductive SK where
 | l | t
noncomputable def SK.itc:SK->String
 | .l => "list_iterator"
 | .t => "tuple_iterator"
def ItK (h:Heap) (it a:Addr):SK->Nat->Prop
 | .l,i=>h.IsListIter it a i
 | .t,i=>h.IsTupleIter it a i
theorem ItK.obj:∀ {k:SK},ItK h it a k i->∃ o,h.get? it=some o/\o.cls=.type k.itc/\o.data=.fields #[.ref a,.int i 0]
 | .l,⟨o,e,c,d⟩=>⟨o,e,c,d⟩
 | .t,⟨o,e,c,d⟩=>⟨o,e,c,d⟩
variable {t':Nat}
section
theorem Qf {ch:List Addr} (I:Inv X pins σ H s) (k:∀ b o,b∉ch->s.heap.get? b=some o->h'.get? b=some o) (hf:∀ b∈ch,KA X pins H b):Inv X pins σ H { s with heap:=h',toks:=t' }:=by
 have nit:∀ b u,H b=some u->b∉ch:=fun b u e z=>by
  rw [(hf b z).1] at e
  cases e
 refine I.step (g':=s.gens) (d':=s.drawn) (ch:=ch) (fun b hb=>?_) (fun b o _ _ hc e _=>k b o hc e) (fun b o _ _ hc e _=>⟨o.slots,k b o hc e⟩) (fun _ _ _ _ n=>n) (fun b o hc e=>⟨o,k b o hc e⟩) (fun _ _ e=>e) (fun _ _ _ e=>e) (fun b ps e=>⟨#[],by rw [e]; simp⟩) (fun m hm=>?_) (fun b u e=>?_) I.bare
 ·obtain ⟨f0,f1,f2,f3,f4,f5⟩:=hf b hb
  exact ⟨f3,f1,f4,f5⟩
 ·obtain ⟨o,es,ep,ho,r⟩:=hm
  exact ⟨o,es,ep,k _ o (fun z=>(hf _ z).2.1 rfl) ho,r⟩
 ·refine (I.hok b u e).stay (fun c v hc q=>k c v ?_ q) (fun _ q=>q) fun _ _ q=>q
  rcases hc with z | z
  ·rw [z]
   exact nit b u e
  ·exact nit c _ z
theorem qhD {d':Drawn} (I:Inv X pins σ H s) (k:∀ b u,s.heap.get? b=some u->h'.get? b=some u):Inv X pins σ H { s with heap:=h',drawn:=d',toks:=t' }:=by
 refine I.step (g':=s.gens) (d':=d') (ch:=[]) (fun _ z=>nomatch z) (fun b o _ _ _ e _=>k b o e) (fun b o _ _ _ e _=>⟨o.slots,k b o e⟩) (fun _ _ _ _ n=>n) (fun b o _ e=>⟨o,k b o e⟩) (fun _ _ e=>e) (fun _ _ _ e=>e) (fun b ps e=>⟨#[],by rw [e]; simp⟩) (fun m hm=>?_) (I.hok.kept k) I.bare
 obtain ⟨o,es,ep,ho,r⟩:=hm
 exact ⟨o,es,ep,k _ o ho,r⟩
end
theorem JU {xs:List V} {us:List Value} (r:Vals xs us) (h:us[i]?=some u):∃ x,xs[i]?=some x/\RelV x u:=by
 have hi:i < us.length:=(aA.mp h).1
 have hx:i < xs.length:=by rw [r.length]; exact hi
 obtain ⟨u',h1,h2⟩:=r.get (af hx)
 rw [h] at h1
 cases h1
 exact ⟨xs[i],af hx,h2⟩
def leS (x y:Str):Prop:=¬y.cps.toList < x.cps.toList
noncomputable def qdm (x:Str):List Str->List Str
 | []=>[x]
 | y::l=>if uI y x=true then y::qdm x l else x::y::l
noncomputable def kQ:List Str->List Str
 | []=>[]
 | x::l=>qdm x (kQ l)
theorem JV {z:Str} (a:leS x y) (b:leS y z):leS x z:=List.le_trans (α:=Nat) a b
theorem Xq (x y:Str):leS x y\/leS y x:=List.le_total (α:=Nat) x.cps.toList y.cps.toList
theorem GX (a:leS x y) (b:leS y x):x=y:=by
 have e:=List.le_antisymm (α:=Nat) (as:=x.cps.toList) (bs:=y.cps.toList) a b
 obtain ⟨⟨l⟩⟩:=x
 obtain ⟨⟨m⟩⟩:=y
 simp at e
 rw [e]
theorem strLt_false:uI y x=false↔leS x y:=by
 unfold uI leS
 exact decide_eq_false_iff_not
theorem zx (x:Str):∀ l,(qdm x l).Perm (x::l)
 | []=>cr _
 | y::l=>by
  unfold qdm
  split
  ·exact ((zx x l).cons y).trans (List.Perm.swap _ _ _)
  ·exact cr _
theorem qX:∀ l,(kQ l).Perm l
 | []=>cr _
 | x::l=>(zx x _).trans ((qX l).cons x)
theorem zy (x:Str):∀ l,l.Pairwise leS->(qdm x l).Pairwise leS
 | [],_=>List.pairwise_singleton _ _
 | y::l,h=>by
  have h0:=aQ.mp h
  unfold qdm
  split
  ·rename_i hlt
   have hyx:leS y x:=by
    rcases Xq y x with q | q
    ·exact q
    ·rw [<-strLt_false] at q
     rw [q] at hlt
     cases hlt
   refine aQ.mpr ⟨fun z hz=>?_,zy x l h0.2⟩
   rcases ac.mp ((zx x l).mem_iff.mp hz) with rfl | hz
   ·exact hyx
   ·exact h0.1 z hz
  ·rename_i hlt
   have hxy:leS x y:=strLt_false.mp (by cases e:uI y x with | true=>exact absurd e hlt | false=>rfl)
   refine aQ.mpr ⟨fun z hz=>?_,h⟩
   rcases ac.mp hz with rfl | hz
   ·exact hxy
   ·exact JV hxy (h0.1 z hz)
theorem xy:∀ l,(kQ l).Pairwise leS
 | []=>eF
 | x::l=>zy x _ (xy l)
theorem JW:∀ {l m:List Str},l.Perm m->l.Pairwise leS->m.Pairwise leS->l=m
 | [],m,p,_,_=>p.nil_eq
 | x::l,[],p,_,_=>absurd p.length_eq (by simp)
 | x::l,y::m,p,hl,hm=>by
  have a:=aQ.mp hl
  have b:=aQ.mp hm
  have exy:x=y:=by
   have h1:y∈x::l:=p.mem_iff.mpr (ah ..)
   have h2:x∈y::m:=p.mem_iff.mp (ah ..)
   rcases ac.mp h1 with e | e
   ·exact e.symm
   ·rcases ac.mp h2 with e' | e'
    ·exact e'
    ·exact GX (a.1 y e) (b.1 x e')
  subst exy
  rw [JW p.cons_inv a.2 b.2]
theorem gH:∀ (x:Str) (l:List Str),risingS x l=true->(x::l).Pairwise leS
 | x,[],_=>List.pairwise_singleton _ _
 | x,y::l,h=>by
  have h:(!ltCps y.cps.toList x.cps.toList&&risingS y l)=true:=h
  rw [aO] at h
  have ih:=gH y l h.2
  have hxy:leS x y:=by
   have h1:=h.1
   rw [ltCps_eq] at h1
   unfold leS
   simpa using h1
  refine aQ.mpr ⟨fun z hz=>?_,ih⟩
  rcases ac.mp hz with rfl | hz
  ·exact hxy
  ·exact JV hxy ((aQ.mp ih).1 z hz)
theorem Vd:∀ (l:List Str),sortedS l=true->l.Pairwise leS
 | [],_=>eF
 | x::l,h=>gH x l h
theorem JX (p:ss.Perm ks) (h:sortedS ss=true):ss=kQ ks:=JW (p.trans (qX ks).symm) (Vd ss h) (xy ks)
noncomputable def zz:List D->Option (List Str)
 | []=>some []
 | .str x::l=>(zz l).map (x::·)
 | _::_=>none
noncomputable def zA:D->Option (List Str)
 | .lst ds=>zz ds
 | .tup ds=>zz ds
 | _=>none
noncomputable def qdn (P:Program) (w:World) (p:Addr) (ks:List Str):HO:=.ext fun h=>SetS P w h p ks
theorem qcv (x:SetS P w h p ks):ObjOk P w H h p (qdn P w p ks):=
 ⟨x,let ⟨_,_,_,e,_⟩:=x; ⟨_,e⟩,fun _ _ a k=>a.at k⟩
theorem Qg:∀ {vs:List V} {us:List Value} {ds:List D} {ss:List Str},IsL K F vs ds->Vals vs us->zz ds=some ss->StrsAre us ss/\∀ x∈ss,x.length<=sizeLine
 | [],[],[],ss,_,_,e=>by cases e; exact ⟨.nil,fun x h=>by cases h⟩
 | v::vs,u::us,d::ds,ss,.cons i il,.cons r rl,e=>by
  cases d with
  | str x=>
   cases q:zz ds with
   | none=>
    have e:(zz ds).map (x::·)=some ss:=e
    rw [q] at e
    cases e
   | some sl=>
    have e:(zz ds).map (x::·)=some ss:=e
    rw [q] at e
    cases e
    cases i with
    | str hz=>
     obtain ⟨t,rfl⟩:=r
     have ih:=Qg il rl q
     refine ⟨.cons x t ih.1,fun y hy=>?_⟩
     rcases ac.mp hy with rfl | hy
     ·exact hz
     ·exact ih.2 y hy
  | _=>cases e
variable {f fa:Sl->Out (D×Sl)}
section
variable {own:List Nat} {e:Expr} {ma:Mo} {pos:Pos}
theorem JY:∀ (l ks:List Str) {x:Str},x∈l.foldl vF ks->x∈ks\/x∈l
 | [],ks,x,h=>.inl h
 | y::l,ks,x,h=>by
  rcases JY l (vF ks y) h with q | q
  ·unfold vF at q
   split at q
   ·exact .inl q
   ·rcases ak.mp q with q | q
    ·exact .inl q
    ·exact .inr (by rw [am.mp q]; exact ah ..)
  ·exact .inr (aa _ q)
theorem qa9 (hK:C.K=X.K) (hc:X.calm=true):uw X (.type "set") (fun xs H Q=>∃ x F dx ss,xs=[x]/\Same F H/\TopIs C.K F H x dx/\zA dx=some ss/\ss.length < 4000/\((∀ y∈ss,y.length<=sizeLine)->∀ p,H p=none->Q (.ref p) (upd H p (qdn X.prog X.w p (ss.foldl vF []))))):=by
 intro pins s σ H xs us Q I r h
 obtain ⟨x,F,dx,ss,rfl,sb,tx,es,hl,q⟩:=h
 obtain ⟨u,rfl,ru⟩:=uG r
 have fin:(∀ y∈ss,y.length<=sizeLine)->∀ h' tk,SetS X.prog X.w h' s.heap.objs.size (ss.foldl vF [])->(∀ b o,s.heap.get? b=some o->h'.get? b=some o)->EP X pins σ Q (.ref s.heap.objs.size) { s with heap:=h',toks:=tk }:=fun hy h' tk hS kp=>
  ⟨.ref s.heap.objs.size,_,I.laid (t':=tk) kp (ax _) (qcv hS),rfl,q hy _ (I.hok.fresh (ax _))⟩
 cases dx with
 | lst ds=>
  obtain ⟨a,vs,rfl,hq,il⟩:=tx.lst sb
  cases ru
  rw [hK] at hq
  obtain ⟨its,rv,pl,hz⟩:=I.list hq
  obtain ⟨st,hy⟩:=Qg il rv es
  have hlt:a < s.heap.objs.size:=let ⟨o,_,e,_⟩:=pl; ay e
  have hn:its.length=ss.length:=st.length
  refine JM (fun A1 Q1 E1 hA k=>?_) (fin hy)
  refine GT (items:=its.toArray) (hA.trans (I.ok.hd hc)) (JL (ao _ rfl)) (pl.isList.push _) (by simpa using st) (by rw [aq,hn]; unfold scanBound; omega) (aE hlt) fun h' tk hS kp=>k h' tk hS fun b o eb=>kp b o (aE (ay eb)) (ae _ eb)
 | tup ds=>
  obtain ⟨a,vs,rfl,hq,il⟩:=tx.tup sb
  cases ru
  rw [hK] at hq
  obtain ⟨its,rv,pl,hz⟩:=I.tuple hq
  obtain ⟨st,hy⟩:=Qg il rv es
  have hlt:a < s.heap.objs.size:=pl.lt
  have hn:its.length=ss.length:=st.length
  refine JM (fun A1 Q1 E1 hA k=>?_) (fin hy)
  refine Xk (items:=its.toArray) (hA.trans (I.ok.hd hc)) (JL (ao _ rfl)) (by obtain ⟨o,e,c⟩:=pl; exact ⟨o,ae _ e,c⟩) (by simpa using st) (by rw [aq,hn]; unfold scanBound; omega) (aE hlt) fun h' tk hS kp=>k h' tk hS fun b o eb=>kp b o (aE (ay eb)) (ae _ eb)
 | _=>cases es
theorem zB:∀ {us:List Value} {ss:List Str},StrsAre us ss->Vals (ss.map V.str) us
 | _,_,.nil=>.nil
 | _,_,.cons y t h=>.cons ⟨t,rfl⟩ (zB h)
theorem Xr (hc:X.calm=true):uw X (.builtin "sorted") (fun xs H Q=>∃ a ks,xs=[.ref a]/\H a=some (qdn X.prog X.w a ks)/\ks.length < 64/\∀ p,H p=none->Q (.ref p) (upd H p (.lst ((kQ ks).map V.str)))):=by
 intro pins s σ H xs us Q I r h
 obtain ⟨a,ks,rfl,ha,h64,q⟩:=h
 obtain ⟨u,rfl,ru⟩:=uG r
 cases ru
 have hS:SetS X.prog X.w s.heap a ks:=(I.hok a _ ha).1
 refine UK (I.ok.hd hc) hS h64 fun h1 h' dr tk vs e ss k1 k2 hp st pm so=>?_
 rw [JX pm so] at st
 have I1:Inv X pins σ H { s with heap:=h1,drawn:=dr,toks:=tk }:=qhD I k1
 have hz:(kQ ks).length<=sizeLine:=by
  rw [(qX ks).length_eq,sizeLine_eq]
  omega
 refine ⟨.ref h1.objs.size,_,I1.laid (t':=tk) (o:=.lst ((kQ ks).map V.str)) k2 (ax _) ⟨by rw [au]; exact hz,vs.toList,e,zB st,by simpa [seqObj] using hp⟩,rfl,q _ (I1.hok.fresh (ax _))⟩
theorem qcw:uw X (.builtin "len") (fun xs H Q=>∃ a ks,xs=[.ref a]/\H a=some (qdn X.prog X.w a ks)/\Q (.int ks.length) H):=by
 intro pins s σ H xs us Q I r h
 obtain ⟨a,ks,rfl,ha,q⟩:=h
 obtain ⟨u,rfl,ru⟩:=uG r
 cases ru
 obtain ⟨es,ep,t,ho,d⟩:SetS X.prog X.w s.heap a ks:=(I.hok a _ ha).1
 have hb:=d.bd
 refine call_len_set ho ⟨rfl,rfl,rfl⟩ rfl d.fits (by unfold scanBound at hb; omega) ?_
 exact ⟨.int ks.length,H,I.tok _,⟨_,by rw [d.size]⟩,q⟩
theorem Ve {m:Mo} {Q R:VK} (h:tE C own m f σ H Q) (i:∀ v H1,Q v H1->R v H1):tE C own m f σ H R:=by
 obtain ⟨F,ρ,rp,po⟩:=h
 refine ⟨F,ρ,rp,?_⟩
 cases q:f ρ with
 | ok p=>
  rw [q] at po
  obtain ⟨d,ρ1⟩:=p
  exact fun v F1 H1 a b c=>i _ _ (po v F1 H1 a b c)
 | exc c ρ1=>
  rw [q] at po
  exact po
 | bad=>
  rw [q] at po
  exact po.elim
noncomputable def xU (d:D):Out D:=match zA d with
 | some ss=>if ss.length < 64 then .ok (.lst ((kQ (ss.foldl vF [])).map D.str)) else .bad
 | none=>.bad
noncomputable def Qh (d:D):Out D:=match zA d with
 | some ss=>if ss.length < 4000 then .ok (.int (ss.foldl vF []).length) else .bad
 | none=>.bad
theorem Qi:∀ {ss:List Str},(∀ x∈ss,x.length<=sizeLine)->IsL K F (ss.map V.str) (ss.map D.str)
 | [],_=>.nil
 | x::l,h=>.cons (.str (h x (ah ..))) (Qi fun y hy=>h y (aa _ hy))
theorem UL {p p2 pos2:Pos} (hK:C.K=X.K) (hc:X.calm=true) (hg:Gl X "sorted") (hm:X.mg "sorted"=none) (hv:bootBuiltins "sorted"=some (.builtin "sorted")) (hg2:Gl X "set") (hm2:X.mg "set"=none) (hv2:bootBuiltins "set"=some (.type "set")) (ha:PE X e (tE C own ma fa))
  (he:starEach [e] X.env=[(false,eval e X.env)]:=by exact qR rfl) (he2:starEach [.Call (.Name "set" p2) [e] [] pos2] X.env=[(false,eval (.Call (.Name "set" p2) [e] [] pos2) X.env)]:=by exact qR rfl) :
  PE X (.Call (.Name "sorted" p) [.Call (.Name "set" p2) [e] [] pos2] [] pos) (tE C own .fr (d1 xU fa)):=by
 refine jR (uZ (Xr hc) hg hm hv (qV (wA (qa9 hK hc) hg2 hm2 hv2 (qV ha jM he) (by decide) (by decide) (by rw [he]; rfl) rfl) jM he2) (by decide) (by decide) (by rw [he2]; rfl) rfl) fun σ H Q h=>?_
 refine Ve (yP (ma:=ma) h) fun x H1 ⟨x',F,dx,ex,sb,tx,po⟩=>?_
 cases ex
 unfold xU at po
 cases es:zA dx with
 | none=>
  rw [es] at po
  exact po.elim
 | some ss=>
  rw [es] at po
  by_cases hl:ss.length < 64
  ·have po:PoV C .fr F H1 (if ss.length < 64 then .ok (.lst ((kQ (ss.foldl vF [])).map D.str)) else .bad) Q:=po
   rw [if_pos hl] at po
   refine ⟨x,F,dx,ss,rfl,sb,tx,es,by omega,fun hy q hq=>⟨q,_,rfl,qo,?_,fun l hl2=>?_⟩⟩
   ·have:=yp ss []
    rw [ba] at this
    omega
   ·obtain ⟨s1,c1,f1⟩:=vW (u:=qdn X.prog X.w q (ss.foldl vF [])) sb hq
    obtain ⟨s2,c2,f2⟩:=vW (u:=.lst ((kQ (ss.foldl vF [])).map V.str)) s1 hl2
    have hl1:H1 l=none:=by
     by_cases z:l=q
     ·rw [z] at hl2
      rw [qo] at hl2
      cases hl2
     ·rwa [qx z] at hl2
    refine po _ _ _ s2 (c1.trans' c2) ⟨l,rfl,hl1,f2,_,qo,Qi fun y hy2=>hy y ?_⟩
    rcases JY ss [] ((qX _).mem_iff.mp hy2) with z | z
    ·cases z
    ·exact z
  ·have po:PoV C .fr F H1 (if ss.length < 64 then .ok (.lst ((kQ (ss.foldl vF [])).map D.str)) else .bad) Q:=po
   rw [if_neg hl] at po
   exact po.elim
theorem Xu {p p2 pos2:Pos} (hK:C.K=X.K) (hc:X.calm=true) (hg:Gl X "len") (hm:X.mg "len"=none) (hv:bootBuiltins "len"=some (.builtin "len")) (hg2:Gl X "set") (hm2:X.mg "set"=none) (hv2:bootBuiltins "set"=some (.type "set")) (ha:PE X e (tE C own ma fa))
  (he:starEach [e] X.env=[(false,eval e X.env)]:=by exact qR rfl) (he2:starEach [.Call (.Name "set" p2) [e] [] pos2] X.env=[(false,eval (.Call (.Name "set" p2) [e] [] pos2) X.env)]:=by exact qR rfl) :
  PE X (.Call (.Name "len" p) [.Call (.Name "set" p2) [e] [] pos2] [] pos) (tE C own .sh (d1 Qh fa)):=by
 refine jR (uZ qcw hg hm hv (qV (wA (qa9 hK hc) hg2 hm2 hv2 (qV ha jM he) (by decide) (by decide) (by rw [he]; rfl) rfl) jM he2) (by decide) (by decide) (by rw [he2]; rfl) rfl) fun σ H Q h=>?_
 refine Ve (yP (ma:=ma) h) fun x H1 ⟨x',F,dx,ex,sb,tx,po⟩=>?_
 cases ex
 unfold Qh at po
 cases es:zA dx with
 | none=>
  rw [es] at po
  exact po.elim
 | some ss=>
  rw [es] at po
  have po:PoV C .sh F H1 (if ss.length < 4000 then .ok (.int (ss.foldl vF []).length) else .bad) Q:=po
  by_cases hl:ss.length < 4000
  ·rw [if_pos hl] at po
   refine ⟨x,F,dx,ss,rfl,sb,tx,es,hl,fun hy q hq=>⟨q,_,rfl,qo,?_⟩⟩
   obtain ⟨s1,c1,f1⟩:=vW (u:=qdn X.prog X.w q (ss.foldl vF [])) sb hq
   exact po _ _ _ s1 c1 (.int _)
  ·rw [if_neg hl] at po
   exact po.elim
end
variable {β:Type}
@[simp] theorem vM {a:α} {k:α->Out β}:(Out.ok a).bind k=k a:=rfl
@[simp] theorem qgZ {c:Str} {o:Sl} {k:α->Out β}:(Out.exc c o:Out α).bind k=.exc c o:=rfl
@[simp] theorem qg0 {k:α->Out β}:(Out.bad:Out α).bind k=.bad:=rfl
@[simp] theorem qgh {a:α}:(Out.ok a).plain=.ok a:=rfl
@[simp] theorem qg1:(Out.bad:Out α).plain=.bad:=rfl
variable {c:Prop}
@[simp] theorem qg2 [Decidable c] {a b:Out α} {k:α->Out β}:(if c then a else b).bind k=if c then a.bind k else b.bind k:=by split <;> rfl
@[simp] theorem qg3 [Decidable c] {a b:Out α}:(if c then a else b).plain=if c then a.plain else b.plain:=by split <;> rfl
noncomputable def GY (d:D) (A B:Out α):Out α:=match d with
 | .bl b=>if b=true then A else B
 | _=>.bad
@[simp] theorem qft {A B:Out α}:GY (.bl b) A B=if b=true then A else B:=rfl
noncomputable def qg4 (p:D×Sl):Out (Bool×Sl):=match p.1 with
 | .bl b=>.ok (b,p.2)
 | _=>.bad
variable {ρ:Sl}
@[simp] theorem qgi:qg4 (.bl b,ρ)=.ok (b,ρ):=rfl
noncomputable def UM (ms:List PM):Out (Fl×Sl)->Out (D×List D)
 | .ok (.nx,ρ)=>.ok (.non,qv ρ 0 ms)
 | .ok (.rt d,ρ)=>.ok (d,qv ρ 0 ms)
 | .ok _=>.bad
 | .exc c ρ=>.exc c ((qv ρ 0 ms).map some)
 | .bad=>.bad
variable {ms:List PM}
theorem runD_ap {f:Sl->Out (Fl×Sl)} {ds:List D}:kB N ms f ds=UM ms (f (qw N ds)):=by
 unfold kB UM
 rfl
@[simp] theorem qg5:UM ms (.ok (.rt d,ρ))=.ok (d,qv ρ 0 ms):=rfl
@[simp] theorem qg6:UM ms (.ok (.nx,ρ))=.ok (.non,qv ρ 0 ms):=rfl
@[simp] theorem qgj {c:Str}:UM ms (.exc c ρ)=.exc c ((qv ρ 0 ms).map some):=rfl
@[simp] theorem qgk [Decidable c] {a b:Out (Fl×Sl)}:UM ms (if c then a else b)=if c then UM ms a else UM ms b:=by split <;> rfl
noncomputable def UN (as:List AK) (ρ:Sl):Out (D×List D)->Out (D×Sl)
 | .ok q=>.ok (q.1,jl as q.2 ρ)
 | .exc c o=>.exc c (jl as (o.map (·.getD .non)) ρ)
 | .bad=>.bad
variable {as:List AK}
@[simp] theorem qfu {q:D×List D}:UN as ρ (.ok q)=.ok (q.1,jl as q.2 ρ):=rfl
@[simp] theorem qes {c:Str} {o:Sl}:UN as ρ (.exc c o)=.exc c (jl as (o.map (·.getD .non)) ρ):=rfl
@[simp] theorem qet [Decidable c] {a b:Out (D×List D)}:UN as ρ (if c then a else b)=if c then UN as ρ a else UN as ρ b:=by split <;> rfl
variable {ρ:Sl}
@[simp] theorem qgl:qe i ρ=match ρ[i]? with | some (some d)=>.ok (d,ρ) | _=>.bad:=rfl
@[simp] theorem qhE:dC d ρ=.ok (d,ρ):=rfl
variable {gg:D->Sl->Out Sl}
section
variable {g g':D->D->Out D} {g1:D->Out D} {fb fc:Sl->Out (D×Sl)} {ft fu:Sl->Out (Bool×Sl)} {fr:Sl->Out (List D×Sl)} {fs ft1:Sl->Out (Fl×Sl)} {fi:Sl->Out (List D×Sl)} {G:List D->Out (D×List D)}
@[simp] theorem GZ:d1 g1 fa ρ=(fa ρ).bind fun p=>(g1 p.1).plain.bind fun d=>.ok (d,p.2):=rfl
@[simp] theorem qgm:d2 g fa fb ρ=(fa ρ).bind fun p=>(fb p.2).bind fun q=>(g p.1 q.1).plain.bind fun d=>.ok (d,q.2):=rfl
@[simp] theorem qgn:zl f ρ=(f ρ).bind fun p=>(ye p.1).bind fun b=>.ok (b,p.2):=rfl
@[simp] theorem qfv:je f ρ=(f ρ).bind qg4:=rfl
@[simp] theorem qgo:KQ ft ρ=(ft ρ).bind fun p=>.ok (!p.1,p.2):=rfl
@[simp] theorem qfw:qgg f ρ=(je f ρ).bind fun p=>.ok (.bl (!p.1),p.2):=rfl
@[simp] theorem qgp:qca ft fu ρ=(ft ρ).bind fun p=>if p.1=true then fu p.2 else .ok (false,p.2):=rfl
@[simp] theorem qg7:dOr ft fu ρ=(ft ρ).bind fun p=>if p.1=true then .ok (true,p.2) else fu p.2:=rfl
@[simp] theorem qfx:KR fa fb ρ=(fa ρ).bind fun p=>GY p.1 (fb p.2) (.ok (.bl false,p.2)):=by
 unfold KR
 cases fa ρ with
 | ok p=>
  obtain ⟨d,r⟩:=p
  cases d <;> try rfl
  rename_i b
  cases b <;> rfl
 | exc c o=>rfl
 | bad=>rfl
@[simp] theorem qgq:qgS fa fb ρ=(fa ρ).bind fun p=>GY p.1 (.ok (.bl true,p.2)) (fb p.2):=by
 unfold qgS
 cases fa ρ with
 | ok p=>
  obtain ⟨d,r⟩:=p
  cases d <;> try rfl
  rename_i b
  cases b <;> rfl
 | exc c o=>rfl
 | bad=>rfl
@[simp] theorem qg8:dIf ft fa fb ρ=(ft ρ).bind fun p=>if p.1=true then fa p.2 else fb p.2:=rfl
@[simp] theorem qeu:yf g g' fa fb fc ρ=(fa ρ).bind fun p=>(fb p.2).bind fun q=>(g p.1 q.1).plain.bind fun z=>GY z ((fc q.2).bind fun r=>(g' q.1 r.1).plain.bind fun d=>.ok (d,r.2)) (.ok (.bl false,q.2)):=by
 unfold yf
 congr 1
 funext p
 congr 1
 funext q
 congr 1
 funext z
 cases z <;> try rfl
 rename_i b
 cases b <;> rfl
@[simp] theorem qgr:qH ρ=.ok ([],ρ):=rfl
@[simp] theorem qfy:qd fa fr ρ=(fa ρ).bind fun p=>(fr p.2).bind fun q=>.ok (p.1::q.1,q.2):=rfl
@[simp] theorem qfz:vd fr ρ=(fr ρ).bind fun q=>.ok (D.non::q.1,q.2):=rfl
@[simp] theorem qgs:zm fr ρ=(fr ρ).bind fun p=>if p.1.length<=sizeLine then .ok (.tup p.1,p.2) else .bad:=rfl
@[simp] theorem qgt:xO fr ρ=(fr ρ).bind fun p=>if p.1.length<=sizeLine then .ok (.lst p.1,p.2) else .bad:=rfl
@[simp] theorem qfA:ka ρ=.ok (.nx,ρ):=rfl
@[simp] theorem Vf:ji fs ft1 ρ=(fs ρ).bind fun p=>match p.1 with | .nx=>ft1 p.2 | _=>.ok p:=by
 show _=_
 unfold ji
 cases fs ρ with
 | ok p=>obtain ⟨fl,r⟩:=p; cases fl <;> rfl
 | exc c o=>rfl
 | bad=>rfl
@[simp] theorem qev:sIf ft fs ft1 ρ=(ft ρ).bind fun p=>if p.1=true then fs p.2 else ft1 p.2:=rfl
@[simp] theorem qaa:wC f ρ=(f ρ).bind fun p=>.ok (.nx,p.2):=rfl
@[simp] theorem Vg:jZ f ρ=(f ρ).bind fun p=>.ok (.rt p.1,p.2):=rfl
@[simp] theorem yW:kb i f ρ=(f ρ).bind fun p=>if i < p.2.length then .ok (.nx,p.2.set i (some p.1)) else .bad:=rfl
@[simp] theorem qfB:qt as G fr ρ=(fr ρ).bind fun p=>match qy as p.1 p.2 with | some ds=>UN as p.2 (G ds) | none=>.bad:=rfl
@[simp] theorem qgu:qhB f ρ=(f ρ).bind fun p=>(qed p.1).bind fun ds=>.ok (ds,p.2):=rfl
@[simp] theorem qgv:km f ρ=(f ρ).bind fun p=>(jL p.1).bind fun ds=>.ok (ds,p.2):=rfl
@[simp] theorem qg9:gNm i d ρ=if i < ρ.length then .ok (ρ.set i (some d)) else .bad:=rfl
@[simp] theorem vG:KU fi gg fs ρ=(fi ρ).bind fun p=>wz gg fs p.1 p.2:=rfl
@[simp] theorem qgw:qfo f gg ρ=(f ρ).bind fun p=>match gg p.1 p.2 with | .ok ρ'=>.ok (.nx,ρ') | _=>.bad:=rfl
@[simp] theorem qcx {gg:List D->D->Out (List D)}:KZ i gg f ρ=if yU ρ[i]?=true then (f ρ).bind fun p=>(match p.2[i]? with | some (some (.lst xs))=>(match gg xs p.1 with | .ok ys=>.ok (.non,p.2.set i (some (.lst ys))) | _=>.bad) | _=>.bad) else .bad:=rfl
@[simp] theorem qha:ftT ρ=.ok (true,ρ):=rfl
end
end L2.D2
namespace L2.D2
open PySem PySem.Spec PyProof.Rows
def qdl (i j:Int):Prop:=(0<=j/\j<=64)/\-4611686018427387904 < i/\i < 4611686018427387904
instance:∀ i j,Decidable (qdl i j):=fun i j=>inferInstanceAs (Decidable (_/\_))
variable {X:Cx} {C:Ct}
section
theorem qaZ:OpR X (binaryOp .Pow) (rI qdl fun i j=>.int (i ^ j.toNat)):=opI fun i j _ _ _ _ _ hc q=>by
 obtain ⟨⟨h0,h1⟩,h2,h3⟩:=hc
 exact pow_int_small h0 (by omega) (by omega) q
noncomputable def qgx:D->D->Out D:=uy fun i j=>if qdl i j then .ok (.int (i ^ j.toNat)) else .bad
theorem qew:OpD X C .sh (binaryOp .Pow) qgx:=Wa qaZ fun _ _ _=>.int _
end
noncomputable def Xv (sep:Str):D->Out D
 | .lst ds=>match zz ds with
  | some ss=>if (ss.map (·.length)).sum+ss.length * sep.length<=16777216/\(eT sep ss).length<=sizeLine then .ok (.str (eT sep ss)) else .bad
  | none=>.bad
 | _=>.bad
variable {own:List Nat} {e:Expr}
section
variable {fe:Sl->Out (D×Sl)} {m:Mo} {apos cpos:Pos} {sep:Str}
theorem qcy:MtR X "str.join" (fun x vs H Q=>∃ (sep:Str) (a:Addr) (xs:List V) (ss:List Str),x=.str sep/\vs=[.ref a]/\SqL X.K H a xs/\(∀ us,Vals xs us->StrsAre us ss)/\(ss.map (·.length)).sum+ss.length * sep.length<=16777216/\Q (.str (eT sep ss)) H):=by
 intro pins s σ H x vs v us Q I rx rv h
 obtain ⟨sep,a,xs,ss,rfl,rfl,hq,hb,hz,q⟩:=h
 obtain ⟨t,rfl⟩:=rx
 obtain ⟨u,rfl,ru⟩:=rv.one
 cases ru
 obtain ⟨its,r,pl,_⟩:=I.list hq
 obtain ⟨o,n,ho,hc,hd,hdt⟩:=pl
 exact join_list ⟨o,ho,hc,n,hdt⟩ (by simpa using hb its r) hz fun t' k=>⟨.str (eT sep ss),H,I.tok _,⟨_,rfl⟩,q⟩
theorem qcz {c1 c2} (hK:C.K=X.K) (he:PE X e (tE C own m fe))
  (hbase:attributeBase (.Constant (.str sep) c1 c2) "join" X.env (eval (.Constant (.str sep) c1 c2) X.env)=eval (.Constant (.str sep) c1 c2) X.env:=by rfl)
  (hfew:((backTo cpos (starEach [e] X.env)).all (fun x=>!x.1)&&(backToKw cpos (keywordEach [] X.env)).all (fun x=>x.1.isSome)
   && decide ([e].length+([]:List Keyword).length+(if ([]:List Keyword).isEmpty then 0 else 1) < 30))=true:=by exact yc rfl)
  (hline:(apos.endLine == cpos.line)=true:=by rfl) (hs:starEach [e] X.env=[(false,eval e X.env)]:=by exact qR rfl) :
  PE X (.Call (.Attribute (.Constant (.str sep) c1 c2) "join" apos) [e] [] cpos) (tE C own .sh (d1 (Xv sep) fe)):=by
 refine jR (Gn PySem.F.plainAttrs_str PySem.F.slot_str_join PySem.F.type_str_join qcy qaW (qV he jM hs) hbase hfew hline hs rfl) fun σ H Q h=>?_
 refine ⟨rfl,?_⟩
 obtain ⟨F,ρ,rp,h⟩:=Gx (ma:=m) h
 refine ⟨F,ρ,rp,?_⟩
 cases q:fe ρ with
 | ok p=>
  rw [q] at h
  obtain ⟨d,ρ1⟩:=p
  intro v F1 H1 rp1 c1 mo1
  obtain ⟨F2,dx,sb,tx,po⟩:=h v F1 H1 rp1 c1 mo1
  cases dx <;> try exact po.elim
  rename_i ds
  unfold Xv at po
  cases q2:zz ds with
  | none=>simp only [q2] at po; exact po.elim
  | some ss=>
   simp only [q2] at po
   by_cases hz:(ss.map (·.length)).sum+ss.length * sep.length<=16777216/\(eT sep ss).length<=sizeLine
   ·rw [if_pos hz] at po
    obtain ⟨a,vs,rfl,hq,t⟩:=tx.lst sb
    have hq':SqL X.K H1 a vs:=by rw [<-hK]; exact hq
    exact ⟨sep,a,vs,ss,rfl,rfl,hq',fun us r=>(Qg t r q2).1,hz.1,po _ F2 H1 sb .refl (.str hz.2)⟩
   ·rw [if_neg hz] at po
    exact po.elim
 | exc c=>rw [q] at h; exact h
 | bad=>rw [q] at h; exact h.elim
end
variable {F H:Hp}
theorem PoI.shift {σ:St} {F1 H1:Hp} {r:Out (List D×Sl)} {R:It->Hp->Prop} (h:PoI C own σ F H r R) (c:Chg (OA own σ) F H F1 H1):PoI C own σ F1 H1 r R:=by
 cases r with
 | ok p=>exact fun J F' H' rp c' j=>h J F' H' rp (c.trans' c') j
 | exc x=>exact fun F' H' s io c'=>h F' H' s io (c.trans' c')
 | bad=>exact h.elim
def qab (i j:Int):Prop:=(-(2 ^ 62)<=i/\i < 2 ^ 62)/\-(2 ^ 62)<=j/\j < 2 ^ 62
instance:∀ i j,Decidable (qab i j):=fun i j=>inferInstanceAs (Decidable (_/\_))
noncomputable def yX (fa fb:Sl->Out (D×Sl)):Sl->Out (List D×Sl):=fun ρ=>(fa ρ).bind fun p=>(fb p.2).bind fun q=>match p.1,q.1 with
 | .int i,.int j=>if qab i j then .ok (xQ i (j - i).toNat,q.2) else .bad
 | _,_=>.bad
variable {a:Expr} {fa:Sl->Out (D×Sl)} {ma:Mo} {pos:Pos} {lo:Int} {K:Frag}
section
variable {b tg:Expr} {fb:Sl->Out (D×Sl)} {mb:Mo}
theorem UO {p:Pos} (hg:Gl X "range") (hm:X.mg "range"=none) (ha:PE X a (tE C own .sh fa)) (hb:PE X b (tE C own mb fb)) (hs:starEach [a,b] X.env=[(false,eval a X.env),(false,eval b X.env)]:=by exact Gw rfl rfl) (hs2:starEach [b] X.env=[(false,eval b X.env)]:=by exact qR rfl) :
  PI X tg (.Call (.Name "range" p) [a,b] [] pos) (tIt C own (yX fa fb)):=by
 refine YW (Yp hg hm (qV ha (qV hb jM hs2) (by rw [hs,hs2])) hs hs2) fun σ H R ⟨F,ρ,rp,h⟩=>⟨F,ρ,rp,PoI.bindV h fun v F1 H1 d ρ1 rp1 c1 mo1 h1=>⟨F1,ρ1,rp1,PoI.bindV (h1.shift c1) fun w F2 H2 e ρ2 rp2 c2 mo2 h2=>?_⟩⟩
 have mo1:Is C.K F1 v d:=mo1
 cases d with
 | int i=>
  cases e with
  | int j=>
   cases mo1
   obtain rfl:=mo2.top.int
   have h2:PoI C own σ F1 H1 (if qab i j then .ok (xQ i (j - i).toNat,ρ2) else .bad) R:=h2
   by_cases z:qab i j
   ·rw [if_pos z] at h2
    exact ⟨i,j,rfl,⟨z.1.1,z.1.2,z.2.1,z.2.2⟩,h2 _ F2 H2 rp2 c2 qa4⟩
   ·rw [if_neg z] at h2; exact h2.elim
  | _=>exact h2.elim
 | _=>exact h2.elim
theorem Xw:∀ {xs:List V} {us:List Value},xs.length=us.length->(∀ (j:Nat) (x:V) (u:Value),xs[j]?=some x->us[j]?=some u->RelV x u)->Vals xs us
 | [],[],_,_=>.nil
 | x::xs,u::us,hl,h=>.cons (h 0 x u rfl rfl) (Xw (Nat.succ.inj hl) fun j y w a b=>h (j+1) y w (by simpa using a) (by simpa using b))
 | [],_::_,hl,_=>nomatch hl
 | _::_,[],hl,_=>nomatch hl
noncomputable def qfC (p:Addr) (lo hi:Int):HO:=.ext fun h=>∃ t u v,IsRange h p lo hi 1 t u v
theorem qcA {P:Program} {w:World} {h:Heap} {p:Addr} {hi:Int} {t u v:Tok} (x:IsRange h p lo hi 1 t u v):ObjOk P w H h p (qfC p lo hi):=
 ⟨⟨t,u,v,x⟩,⟨_,x⟩,fun _ _ ⟨t,u,v,x⟩ k=>⟨t,u,v,k _ x⟩⟩
theorem Xx:uw X (.type "range") (fun xs H Q=>∃ j:Int,xs=[.int j]/\∀ p,H p=none->Q (.ref p) (upd H p (qfC p 0 j))):=by
 intro pins s σ H xs us Q I r h
 obtain ⟨j,rfl,q⟩:=h
 obtain ⟨u,rfl,ru⟩:=uG r
 obtain ⟨t,rfl⟩:=ru
 exact call_range_1 ⟨.ref s.heap.objs.size,_,I.laid (t':=s.toks+1+1) (fun b o e=>ae _ e) (ax _) (qcA (IsRange.new ..)),rfl,q _ (I.hok.fresh (ax _))⟩
theorem qac (hc:X.calm=true):uw X (.type "list") (fun xs H Q=>∃ r lo hi,xs=[.ref r]/\H r=some (qfC r lo hi)/\(qab lo hi/\hi - lo<=1000000)/\∀ p,H p=none->Q (.ref p) (upd H p (.lst ((aF (hi - lo).toNat).map fun k=>V.int (lo+(k:Nat)))))):=by
 intro pins s σ H xs us Q I r h
 obtain ⟨a,lo,hi,rfl,ha,hz,q⟩:=h
 obtain ⟨u,rfl,ru⟩:=uG r
 cases ru
 obtain ⟨t,u,v,hr⟩:=(I.hok a _ ha).1
 have e2:Builtin.Range.rangeSize lo hi 1=(((hi - lo).toNat:Nat):Int):=by rw [rangeSize_one]; split <;> omega
 refine call_list_range (n:=(hi - lo).toNat) (I.ok.hd hc) hr (small_one hz.1.1.1 hz.1.1.2 hz.1.2.1 hz.1.2.2) e2 (by omega) fun h' tk acc c k hp hi2=>?_
 refine ⟨.ref s.heap.objs.size,_,I.laid (t':=tk) (o:=.lst ((aF (hi - lo).toNat).map fun k=>V.int (lo+(k:Nat)))) k (ax _) ⟨by rw [au,bD,sizeLine_eq]; omega,acc.toList,c,?_,by simpa using hp⟩,rfl,q _ (I.hok.fresh (ax _))⟩
 refine Xw (by rw [au,bD,bN,hi2.1]) fun j x w ex ew=>?_
 rw [aG] at ex
 obtain ⟨k,ek,rfl⟩:=bb.mp ex
 obtain ⟨hj,rfl⟩:=aA.mp ek
 obtain ⟨t,rfl⟩:=hi2.2 j w (by simpa using ew)
 exact ⟨t,by simp⟩
noncomputable def yq:D->Out D
 | .int j=>if qab 0 j/\j - 0<=1000000 then .ok (.lst (xQ 0 (j - 0).toNat)) else .bad
 | _=>.bad
theorem Xy:∀ l:List Nat,IsL K F (l.map fun k=>V.int (lo+(k:Nat))) (l.map fun k=>D.int (lo+(k:Nat)))
 | []=>.nil
 | k::l=>.cons (.int _) (Xy l)
theorem UP {p p2 pos2:Pos} (hc:X.calm=true) (hg:Gl X "list") (hm:X.mg "list"=none) (hv:bootBuiltins "list"=some (.type "list")) (hg2:Gl X "range") (hm2:X.mg "range"=none) (hv2:bootBuiltins "range"=some (.type "range")) (ha:PE X e (tE C own ma fa))
  (he:starEach [e] X.env=[(false,eval e X.env)]:=by exact qR rfl) (he2:starEach [.Call (.Name "range" p2) [e] [] pos2] X.env=[(false,eval (.Call (.Name "range" p2) [e] [] pos2) X.env)]:=by exact qR rfl) :
  PE X (.Call (.Name "list" p) [.Call (.Name "range" p2) [e] [] pos2] [] pos) (tE C own .fr (d1 yq fa)):=by
 refine jR (wA (qac hc) hg hm hv (qV (wA Xx hg2 hm2 hv2 (qV ha jM he) (by decide) (by decide) (by rw [he]; rfl) rfl) jM he2) (by decide) (by decide) (by rw [he2]; rfl) rfl) fun σ H Q h=>?_
 refine Ve (yP (ma:=ma) h) fun x H1 ⟨x',F,dx,ex,sb,tx,po⟩=>?_
 cases ex
 cases dx <;> try exact po.elim
 rename_i j
 unfold yq at po
 by_cases hz:qab 0 j/\j - 0<=1000000
 ·simp only [if_pos hz] at po
  obtain rfl:=tx.int
  refine ⟨j,rfl,fun q hq=>⟨q,0,j,rfl,qo,hz,fun l hl2=>?_⟩⟩
  obtain ⟨s1,c1,f1⟩:=vW (u:=qfC q 0 j) sb hq
  obtain ⟨s2,c2,f2⟩:=vW (u:=.lst ((aF (j - 0).toNat).map fun k=>V.int (0+(k:Nat)))) s1 hl2
  have hl1:H1 l=none:=by
   by_cases z:l=q
   ·rw [z] at hl2
    rw [qo] at hl2
    cases hl2
   ·rwa [qx z] at hl2
  exact po _ _ _ s2 (c1.trans' c2) ⟨l,rfl,hl1,f2,_,qo,Xy _⟩
 ·simp only [if_neg hz] at po
  exact po.elim
end
noncomputable def Ite (K:Frag) (a:Addr) (xs:List V):It:=
 ⟨fun i H=>i < xs.length/\SqL K H a xs,fun i H v H'=>∃ x p,xs[i]?=some x/\H p=none/\v=.ref p/\H'=upd H p (.tup [.int (i:Nat),x]),fun i H=>xs.length<=i/\SqL K H a xs⟩
theorem Xz {P:Program} {w:World} {K:Frag} {elts:List Expr} {x1} {pos:Pos} (b a:Nat) (xs:List V) (h1:a < b) :
  Turn P w K (.Tuple elts x1 pos) (Ite K a xs) [b+1,b] (b+1) (fun i h=>(∃ old,IsEnum h (b+1) b i old)/\h.IsListIter b a i) where
 mem:=by simp
 obj:=fun i h st c hc=>by
  obtain ⟨⟨old,he⟩,o,ho,hcl,hd⟩:=st
  simp only [ac,aJ,or_false] at hc
  rcases hc with rfl | rfl
  ·exact ⟨_,he,fun v z=>by cases z⟩
  ·exact ⟨o,ho,fun v z=>by rw [hd] at z; cases z⟩
 keep:=fun i h h' st k=>by
  obtain ⟨⟨old,he⟩,o,ho,hcl,hd⟩:=st
  exact ⟨⟨old,k _ (by simp) _ he⟩,o,k _ (by simp) _ ho,hcl,hd⟩
 item:=by
  intro X hP hw hK hc i pins s σ H E I hf st hg
  subst hP hw hK
  obtain ⟨⟨old,he⟩,hit⟩:=st
  obtain ⟨hl,q⟩:=hg
  obtain ⟨its,r,pl,_⟩:=I.list q
  have hi:i < its.length:=by rw [<-r.length]; exact hl
  have hx:its.toArray[i]?=some its[i]:=by simp [hi]
  refine wpAny_pyNext_enum_item he hit pl.isList hx (dR b) fun h' eo it' tp hz kp=>?_
  refine ⟨_,rfl,wpAny_letOwnedTupleGo_enum eo fun hq e2 sb2=>?_⟩
  obtain ⟨x,ex,rx⟩:=JU r (af hi)
  have hT:H s.heap.objs.size=none:=I.hok.fresh (ax _)
  have lt1:b+1 < s.heap.objs.size:=ay he
  have fT:∀ c∈[b+1,b],c≠s.heap.objs.size:=fun c hc=>by
   simp only [ac,aJ,or_false] at hc
   have lt':b+1 < s.heap.objs.size:=lt1
   generalize s.heap.objs.size=m at lt'
   intro z
   omega
  have I1:Inv X pins σ (upd H s.heap.objs.size (.tup [.int (i:Nat),x])) { s with heap:=s.heap.push { cls:=.type "tuple",data:=.seq #[.int i s.toks,its[i]] } }:=
   I.laid (t':=s.toks) (fun _ _ e=>ae _ e) (ax _) ⟨⟨by simp only [ap,ba]; rw [sizeLine_eq]; decide,_,ao _ rfl,rfl⟩,[.int i s.toks,its[i]],.cons ⟨_,rfl⟩ (.cons rx .nil),⟨_,ao _ rfl,rfl,_,rfl⟩⟩
  have I2:Inv X pins σ (upd H s.heap.objs.size (.tup [.int (i:Nat),x])) { s with heap:=hq,toks:=s.toks+1 }:=by
   refine Qf (s:={ s with heap:=s.heap.push { cls:=.type "tuple",data:=.seq #[.int i s.toks,its[i]] } }) (ch:=[b+1,b]) I1 (fun c o nc e=>?_) fun c hc=>⟨by rw [qx (fT c hc)]; exact (hf c hc).1,(hf c hc).2⟩
   simp only [ac,aJ,or_false,not_or] at nc
   rw [sb2.2 c nc.1]
   by_cases ec:c=s.heap.objs.size
   ·subst ec
    have e3:(s.heap.push ({ cls:=.type "tuple",data:=.seq #[.int i s.toks,its[i]] }:Obj)).get? s.heap.objs.size=some { cls:=.type "tuple",data:=.seq #[.int i s.toks,its[i]] }:=ao _ rfl
    rw [show (s.heap.push ({ cls:=.type "tuple",data:=.seq #[.int i s.toks,its[i]] }:Obj)).get? s.heap.objs.size=some o from e] at e3
    rw [e3]
    exact tp
   ·have e4:s.heap.get? c=some o:=by
     have:=e
     rwa [show (s.heap.push ({ cls:=.type "tuple",data:=.seq #[.int i s.toks,its[i]] }:Obj)).get? c=s.heap.get? c from Heap.get?_push_ne _ _ _ ec] at this
    exact kp c o nc.1 nc.2 e4
  refine ⟨.ref s.heap.objs.size,_,I2,rfl,⟨x,_,ex,hT,rfl,rfl⟩,⟨⟨_,by simpa using e2⟩,?_⟩,fun c hc=>by rw [qx (fT c hc)]; exact (hf c hc).1⟩
  obtain ⟨o,ho,hcl,hd⟩:=it'
  exact ⟨o,(sb2.2 _ (dR b).symm).trans ho,hcl,hd⟩
 done:=by
  intro X hP hw hK hc i pins s σ H E I hf st hg
  subst hP hw hK
  obtain ⟨⟨old,he⟩,hit⟩:=st
  obtain ⟨hl,q⟩:=hg
  obtain ⟨its,r,pl,_⟩:=I.list q
  refine wpAny_pyNext_enum_end (I.ok.hd hc) he hit pl.isList (by simp; rw [<-r.length]; exact hl) fun h' ex=>⟨rfl,Qf (t':=s.toks) (ch:=[b+1,b]) I (fun c o nc e=>?_) hf⟩
  simp only [ac,aJ,or_false,not_or] at nc
  exact ex c o nc.2 e
 self:=fun _ _ _ _ _ st h=>wpAny_pyIter_enum st.1.choose_spec h
theorem JZ:bootBuiltins "enumerate"=some (.type "enumerate"):=by decide +kernel
noncomputable def uN (xs:List D):List D:=(xs.zipIdx).map fun p=>.tup [.int (p.2:Nat),p.1]
noncomputable def UQ (f:Sl->Out (D×Sl)):Sl->Out (List D×Sl):=fun ρ=>(f ρ).bind fun p=>match p.1 with
 | .lst xs=>.ok (uN xs,p.2)
 | _=>.bad
theorem qex {a:Addr} {xs:List V} {ds:List D} (p:SqL K F a xs) (t:IsL K F xs ds):ItIs K F (Ite K a xs) (uN ds) where
 go:=fun i H hi s=>by
  unfold uN at hi
  rw [au,dn] at hi
  exact ⟨by rw [t.length]; exact hi,s.seq p⟩
 yld:=fun i Fi H v H' d e s1 s2 y=>by
  obtain ⟨x,q,hx,hn,rfl,rfl⟩:=y
  obtain ⟨d1,e1,i1⟩:=t.get hx
  have ed:d=.tup [.int (i:Nat),d1]:=by
   unfold uN at e
   rw [aG,List.getElem?_zipIdx,e1] at e
   simpa using e.symm
  subst ed
  obtain ⟨g1,g2⟩:=yQ (u:=.tup [.int (i:Nat),x]) s2 hn
  exact ⟨_,g2,g1,.tup (.of qo) (.cons (.int _) (.cons ((i1.mono s1).mono g2.grow) .nil))⟩
 stop:=fun i H hi s=>by
  unfold uN at hi
  rw [au,dn] at hi
  exact ⟨by rw [t.length]; exact hi,s.seq p⟩
section
theorem qcB {ta:TA} {p tpos:Pos} {elts:List Expr} {x1} (hg:Gl X "enumerate") (hm:X.mg "enumerate"=none) (ha:PA X [a] ta) (hs:starEach [a] X.env=[(false,eval a X.env)]) :
  PI X (.Tuple elts x1 tpos) (.Call (.Name "enumerate" p) [a] [] pos) (fun σ H R=>ta σ H fun vs H1=>∃ a1 xs,vs=[.ref a1]/\SqL X.K H1 a1 xs/\R (Ite X.K a1 xs) H1):=by
 refine ⟨?_⟩
 intro pins s σ H R I h
 refine Call_ (uX I hg hm JZ (bh (thn (ha pos pins s σ H _ I h) fun us s1 ⟨vs,H1,I1,r1,q1⟩=>?_) hs rfl))
 obtain ⟨a1,xs,rfl,w1,q⟩:=q1
 obtain ⟨u1,rfl,e1⟩:=uG r1
 cases e1
 obtain ⟨its,v1,pl,_⟩:=I1.list w1
 have hlt:a1 < s1.heap.objs.size:=let ⟨o,_,e,_⟩:=pl; ay e
 refine call_enumerate_list pl.isList fun h' he hit hz kp=>?_
 refine wpAny_pyIter_enum he ?_
 refine ⟨s1.heap.objs.size+1,_,_,Ite X.K a1 xs,H1,rfl,I1.kept (t':=s1.toks) kp,Xz s1.heap.objs.size a1 xs hlt,⟨⟨_,he⟩,hit⟩,fun b hb=>?_,q⟩
 have hle:s1.heap.objs.size<=b:=by
  simp only [ac,aJ,or_false] at hb
  rcases hb with rfl | rfl
  ·exact c8 _ _
  ·exact ax _
 exact I1.fpOk hle (I1.hok.fresh hle)
theorem WC {p tpos:Pos} {elts:List Expr} {x1} (hK:C.K=X.K) (hg:Gl X "enumerate") (hm:X.mg "enumerate"=none) (ha:PE X a (tE C own ma fa)) (h1:ma≠.any:=by decide) (hs:starEach [a] X.env=[(false,eval a X.env)]:=by exact qR rfl) :
  PI X (.Tuple elts x1 tpos) (.Call (.Name "enumerate" p) [a] [] pos) (tIt C own (UQ fa)):=by
 refine YW (qcB hg hm (qV (ux ha h1) jM hs) hs) fun σ H R ⟨F,ρ,rp,h⟩=>⟨F,ρ,rp,PoI.bindV h fun v F1 H1 d ρ1 rp1 c1 mo1 h1=>?_⟩
 have mo1:Is C.K F1 v d:=mo1
 cases mo1 with
 | lst p t=>exact ⟨_,_,rfl,by rw [<-hK]; exact rp1.sub.seq p,by rw [<-hK]; exact h1 _ F1 H1 rp1 c1 (qex p t)⟩
 | _=>exact h1.elim
end
mutual
def qey:Nat->Expr->Option D
 | 0,_=>none
 | n+1,e=>match e with
  | .Constant c _ _=>match c with
   | .none=>some .non
   | .bool b=>some (.bl b)
   | .int i=>some (.int i)
   | .str x=>if x.length<=sizeLine then some (.str x) else none
   | _=>none
  | .UnaryOp .USub (.Constant (.int i) _ _) _=>some (.int (-i))
  | .List es _=>(qdo n es).bind fun ds=>if ds.length<=sizeLine then some (.lst ds) else none
  | .Tuple es _ _=>(qdo n es).bind fun ds=>if ds.length<=sizeLine then some (.tup ds) else none
  | _=>none
def qdo:Nat->List Expr->Option (List D)
 | _,[]=>some []
 | 0,_::_=>none
 | n+1,e::es=>(qey n e).bind fun d=>(qdo n es).bind fun ds=>some (d::ds)
end
theorem WD {α:Type}:∀ l:List α,((l.map fun _=>AK.vl).all fun a=>decide (a=.vl))=true
 | []=>rfl
 | _::l=>by rw [aC,fy,WD l]; rfl
theorem XA {n:Nat} {e:Expr} {d:D} (h:qey n e=some d):KN e=true:=by
 cases n with
 | zero=>cases h
 | succ n=>cases e <;> first | rfl | (simp [qey] at h)
section
variable {X:Cx} {C:Ct} {own:List Nat}
mutual
theorem qez:∀ (n:Nat) {e:Expr} {d:D},qey n e=some d->PE X e (tE C own .sh (dC d))
 | 0,_,_,h=>by cases h
 | n+1,e,d,h=>by
  unfold qey at h
  split at h
  ·split at h
   ·cases h; exact Ju
   ·cases h; exact Jt
   ·cases h; exact qr
   ·split at h
    ·rename_i hz
     cases h
     exact wu hz
    ·cases h
   ·cases h
  ·cases h
   exact jR (qd4 qa6 qr) fun σ H Q h=>h
  ·obtain ⟨ds,h1,h2⟩:=ce.mp h
   split at h2
   ·rename_i hz
    cases h2
    have e2:xO (fun ρ=>.ok (ds,ρ))=dC (.lst ds):=by
     funext ρ
     unfold xO dC
     rw [Out.ok_bind,if_pos hz]
    rw [<-e2]
    exact ux (kr (Qj n h1) (WD _)) (by decide)
   ·cases h2
  ·obtain ⟨ds,h1,h2⟩:=ce.mp h
   split at h2
   ·rename_i hz
    cases h2
    have e2:zm (fun ρ=>.ok (ds,ρ))=dC (.tup ds):=by
     funext ρ
     unfold zm dC
     rw [Out.ok_bind,if_pos hz]
    rw [<-e2]
    exact wE (Qj n h1) (WD _)
   ·cases h2
  ·cases h
theorem Qj:∀ (n:Nat) {es:List Expr} {ds:List D},qdo n es=some ds->PA X es (tAr C own (es.map fun _=>.vl) fun ρ=>.ok (ds,ρ))
 | 0,[],ds,h=>by
  cases h
  exact qg
 | _+1,[],ds,h=>by
  cases h
  exact qg
 | 0,_::_,ds,h=>by cases h
 | n+1,e::es,ds,h=>by
  unfold qdo at h
  obtain ⟨d,h1,h⟩:=ce.mp h
  obtain ⟨ds',h2,h⟩:=ce.mp h
  cases h
  have e2:qd (dC d) (fun ρ=>.ok (ds',ρ))=fun ρ=>.ok (d::ds',ρ):=rfl
  rw [<-e2]
  exact qc (qez n h1) (Qj n h2) (by decide) (kq (XA h1))
end
theorem qcC {es:List Expr} {ds:List D} {pos:Pos} (n:Nat) (h:qdo n es=some ds):PE X (.List es pos) (tE C own .fr (xO fun ρ=>.ok (ds,ρ))):=kr (Qj n h) (WD _)
end
noncomputable def txI (i:Int):Str:=toString i
def CTx (i:Int):Prop:=i.natAbs.log2 < 1920/\(txI i).length<=sizeLine
instance:∀ i,Decidable (CTx i):=fun i=>inferInstanceAs (Decidable (_/\_))
end L2.D2
namespace PySem
open Builtin Builtin.Str
end PySem
namespace L2.D2
open PySem PySem.Spec PyProof.Rows
def qhF (x y:Str):Prop:=(y.length == 0)=false/\(Txt.split x y).length<=sizeLine/\∀ z∈Txt.split x y,z.length<=sizeLine
instance:∀ x y,Decidable (qhF x y):=fun x y=>inferInstanceAs (Decidable (_/\_))
inductive IntsAre:List Value->List Int->Prop
 | nil:IntsAre [] []
 | cons (y:Int) (t:Tok) {vs:List Value} {ys:List Int} (h:IntsAre vs ys):IntsAre (fq y t::vs) (y::ys)
theorem IntsAre.item:∀ {vs:List Value} {ys:List Int},IntsAre vs ys->∀ (i:Nat) (v:Value),vs[i]?=some v->∃ y t,v=fq y t/\ys[i]?=some y
 | _,_,.nil,i,v,e=>by simp at e
 | _,_,.cons y t h,0,v,e=>by simp at e; subst e; exact ⟨y,t,rfl,rfl⟩
 | _,_,.cons y t h,i+1,v,e=>by
  obtain ⟨z,t',e1,e2⟩:=h.item i v (by simpa using e)
  exact ⟨z,t',e1,by simpa using e2⟩
noncomputable def zC:List D->Option (List Int)
 | []=>some []
 | .int x::l=>(zC l).map (x::·)
 | _::_=>none
variable {K:Frag} {F H:Hp}
section
theorem TopIs.ins {v:V} {c:Addr} {fs:List (Str×D)} (s:Same F H) (h:TopIs K F H v (.ins c fs)):∃ a dx fv,v=.ref a/\H a=some (.ins c dx fv)/\IsF K F fv fs:=by
 rcases h with h | ⟨a,rfl,dx,fv,e,t⟩
 ·cases h with
  | ins e t=>exact ⟨_,_,_,rfl,s _ _ e,t⟩
 ·exact ⟨a,dx,fv,rfl,e,t⟩
end
variable {own:List Nat} {σ:St} {ρ:Sl} {i:Nat} {b:Addr}
section
variable {own1:List Nat}
theorem Rep.frz {o:HO} (rp:Rep K own F H σ ρ) (hb:H b=some o) (hF:F b=none) (nA:¬OA own σ b):Rep K own (upd F b o) H σ ρ:=by
 have gr:Same F (upd F b o):=fun c w e=>by rw [qx (qI e hF)]; exact e
 refine ⟨fun c w e=>?_,rp.len,fun j d hj e=>?_,fun j d hj e=>?_,rp.opn,rp.dis⟩
 ·by_cases q:c=b
  ·subst q; rw [qo] at e; cases e; exact hb
  ·rw [qx q] at e; exact rp.sub c w e
 ·obtain ⟨v,h1,h2⟩:=rp.val j d hj e
  exact ⟨v,h1,h2.mono gr⟩
 ·obtain ⟨a,h1,h2,h3⟩:=rp.ow j d hj e
  exact ⟨a,h1,by rw [qx (fun z=>nA ⟨j,hj,by rw [<-z]; exact h1⟩)]; exact h2,h3.grow gr fun _ q=>q⟩
end
variable {X:Cx} {C:Ct} {pos:Pos} {x:Str}
section
theorem vr (i:Nat) (hN:X.N[i]?=some x:=by rfl) (hv:Vis X.env.scope x:=by first | exact aB rfl | exact cN (aB rfl) | exact cN (cN rfl)) (ho:i∉own:=by decide) (hd:(x == ("__debug__":Str))=false:=by decide) (hcd:(x == ("__classdict__":Str))=false:=by decide):PE X (.Name x pos) (tE C own .sh (qe i)):=qd5 hN hv ho hd hcd
end
section
theorem Rep.swap {F' H':Hp} {g:Nat} {o:D} (rp:Rep K own F H σ ρ) (hg:g∈own) (eb:σ[g]?=some (some (V.ref b))) (c:Chg (fun z=>z=b) F H F' H') (sb:Same F' H') (fb:F' b=none) (ow:OwnIs K F' H' b o) :
  Rep K own F' H' σ (ρ.set g (some o))/\Chg (OA own σ) F H F' H':=by
 obtain ⟨d0,hd0⟩:=rp.opn g hg
 have hl:g < ρ.length:=(aA.mp hd0).1
 refine ⟨⟨sb,by simp [rp.len],fun j d hj e=>?_,fun j d hj e=>?_,fun j hj=>?_,rp.dis⟩,c.mono fun z hz=>⟨g,hg,by rw [hz]; exact eb⟩⟩
 ·rw [aw (fun z=>hj (by rw [<-z]; exact hg))] at e
  obtain ⟨v,h1,h2⟩:=rp.val j d hj e
  exact ⟨v,h1,h2.mono c.grow⟩
 ·by_cases q:j=g
  ·subst q
   rw [aH hl] at e
   cases e
   exact ⟨b,eb,fb,ow⟩
  ·rw [aw (bv q)] at e
   obtain ⟨a,h1,h2,h3⟩:=rp.ow j d hj e
   have na:a≠b:=fun z=>by subst z; exact q (rp.dis j g a hj hg h1 eb)
   refine ⟨a,h1,?_,h3.grow c.grow fun o q=>c.keep a o q na⟩
   cases qa:F' a with
   | none=>rfl
   | some u=>
    rcases c.new a (by rw [qa]; simp) with z | z | z
    ·exact absurd h2 z
    ·exact absurd z h3.there
    ·exact absurd z na
 ·by_cases q:j=g
  ·subst q; exact ⟨o,aH hl⟩
  ·rw [aw (bv q)]; exact rp.opn j hj
end
theorem IsL.dropLast {vs:List V} {ds:List D} (h:IsL K F vs ds):IsL K F vs.dropLast ds.dropLast:=by
 rw [List.dropLast_eq_take,List.dropLast_eq_take,h.length]
 exact h.take _
noncomputable def zD (n:Nat) (fw fx:Sl->Out (D×Sl)):Sl->Out (Fl×Sl):=fun ρ=>(fw ρ).bind fun p=>(fx p.2).bind fun q=>match (q.2[n]?:Option (Option D)),q.1 with
 | some (some (.lst ds)),.int k=>(match ixN ds.length k with | some j=>.ok (.nx,q.2.set n (some (.lst (ds.set j p.1)))) | none=>.bad)
 | _,_=>.bad
variable {m mx:Mo} {ix:Expr} {apos cpos:Pos} {n:Nat}
section
variable {mo mw:Mo} {e o w:Expr} {fe fo fw fx:Sl->Out (D×Sl)} {p1 p2 p3:Pos}
theorem Ka (hN:X.N[n]?=some x) (hv:Vis X.env.scope x) (ho:n∈own) (hw:PE X w (tE C own mw fw)) (hx:PE X ix (tE C own mx fx)) (hmw:mw≠.any:=by decide)
  (hd:(x == ("__debug__":Str))=false:=by decide) (hcd:(x == ("__classdict__":Str))=false:=by decide)
  (hsub:∀ v,assign (.Subscript (.Name x p1) ix p2) X.env v=(do
   let ov <-holding [v] (eval (.Name x p1) X.env)
   let iv <-holding [v,ov] (eval ix X.env)
   standAt p2
   holding [v,ov,iv] (setItem ov iv v)
   release [v,ov,iv] []):=by intro _; rfl)
  (ha1:swapsWithSole [.Subscript (.Name x p1) ix p2] w p3.line X.env=pure false:=by rfl) (ha2:swappedStores [.Subscript (.Name x p1) ix p2] w X.env=pure none:=by rfl)
  (ha3:(assignEach [.Subscript (.Name x p1) ix p2] X.env).map (·.2)=[assign (.Subscript (.Name x p1) ix p2) X.env]:=by rfl) :
  PS X (.Assign [.Subscript (.Name x p1) ix p2] w p3) (tSt C own own (zD n fw fx)):=by
 refine gm (qaX (ux hw hmw) (qdE (uW hN hv hd hcd) hx Gm hsub) ha1 ha2 ha3) fun Dn σ H ⟨F,ρ,rp,h⟩=>⟨F,ρ,rp,PoS.bindE h fun v F1 H1 d ρ1 rp1 c1 mo1 h1=>?_⟩
 have mo1:Is C.K F1 v d:=mo1
 obtain ⟨d0,hd0⟩:=rp1.opn n ho
 obtain ⟨a,e1,hF,o0⟩:=rp1.ow n d0 ho hd0
 refine ⟨_,e1,F1,ρ1,rp1,PoS.bindE h1 fun iv F2 H2 di ρ2 rp2 c2 mo2 h2=>?_⟩
 obtain ⟨d2,hd2⟩:=rp2.opn n ho
 obtain ⟨a',e2,hF2,o2⟩:=rp2.ow n d2 ho hd2
 rw [e1] at e2
 cases e2
 simp only [hd2] at h2
 cases d2 with
 | lst ds=>
  cases di with
  | int k=>
   have hiv:=mo2.top.int
   subst hiv
   obtain ⟨xs,ex,il⟩:=o2
   cases q:ixN ds.length k with
   | none=>simp only [q] at h2; exact h2.elim
   | some j=>
    simp only [q] at h2
    obtain ⟨r3,c3⟩:=rp2.write (u:=.lst (xs.set j v)) (d:=.lst (ds.set j d)) ho e1 ⟨_,qo,il.set (mo1.mono c2.grow) j⟩
    exact ⟨a,xs,k,j,rfl,rfl,ex,by rw [il.length]; exact q,h2 σ F2 _ ⟨r3,c3,fun _ z=>.inl z,fun _ _=>rfl⟩⟩
  | _=>exact h2.elim
 | _=>exact h2.elim
end
section
variable {mb:Mo} {b:Expr} {fb:Sl->Out (D×Sl)} {px:Pos}
noncomputable def d2O (i:Nat) (g:D->D->Out D) (fb:Sl->Out (D×Sl)):Sl->Out (D×Sl):=fun ρ=>(fb ρ).bind fun q=>match (q.2[i]?:Option (Option D)) with
 | some (some d)=>(g d q.1).plain.bind fun r=>.ok (r,q.2)
 | _=>.bad
theorem qcD {g:D->D->Out D} {Q:VK} (ho:i∈own) (h:tE C own m (d2O i g fb) σ H Q) :
  qgL i σ H fun x H1=>tE C own mb fb σ H1 fun y H2=>∃ F dx dy,Same F H2/\TopIs C.K F H2 x dx/\TopIs C.K F H2 y dy/\PoV C m F H2 (g dx dy) Q:=by
 obtain ⟨F,ρ,rp,h⟩:=h
 obtain ⟨d0,hd0⟩:=rp.opn i ho
 obtain ⟨a,e1,hF,o0⟩:=rp.ow i d0 ho hd0
 refine ⟨_,e1,F,ρ,rp,Po.bind h fun v F1 H1 d ρ1 rp1 c1 mo1 h1=>?_⟩
 obtain ⟨d1,hd1⟩:=rp1.opn i ho
 obtain ⟨a',e2,hF1,o1⟩:=rp1.ow i d1 ho hd1
 rw [e1] at e2
 cases e2
 simp only [hd1] at h1
 exact ⟨F1,d1,d,rp1.sub,.inr ⟨a,rfl,o1⟩,mo1.top,PoV.of rp1 h1⟩
theorem XB (hK:C.K=X.K) (hu:X.A.units+64 < cLine) (hN:X.N[i]?=some x) (hv:Vis X.env.scope x) (ho:i∈own) (hb:PE X b (tE C own mb fb)) (hs:KI b)
  (hd:(x == ("__debug__":Str))=false:=by decide) (hcd:(x == ("__classdict__":Str))=false:=by decide):PE X (.Subscript (.Name x px) b pos) (tE C own .sh (d2O i ixD fb)):=by
 refine jR (qdT (qa2 (by omega)) (uW hN hv hd hcd) hb hs) fun σ H Q h=>?_
 obtain ⟨v,e1,F,ρ,rp,h⟩:=qcD (mb:=mb) ho h
 refine ⟨v,e1,F,ρ,rp,?_⟩
 cases q2:fb ρ with
 | ok p=>
  rw [q2] at h
  obtain ⟨d',ρ3⟩:=p
  intro w F3 H3 rp3 c3 mo3
  obtain ⟨F4,dx,dy,sb,tx,ty,po⟩:=h w F3 H3 rp3 c3 mo3
  exact qa3 (σ:=σ) hK sb tx ty po
 | exc c=>rw [q2] at h; exact h
 | bad=>rw [q2] at h; exact h.elim
end
def FlyA (h:Heap) (ex T:Addr) (cls:Value):Prop:=∃ oe vs oT ts fl,h.get? ex=some oe/\oe.cls=cls/\oe.data=.fields vs/\vs[1]?=some (.ref T)/\T≠ex/\h.get? T=some oT/\oT.data=.fields ts/\ts[3]?=some fl
theorem FlyA.tr {h base:Heap} {ex T:Addr} {cls:Value} (f:FlyA h ex T cls) (hb:base.get? T=none):∃ a0 fl,h.TracedAtW base ex cls a0 fl:=by
 obtain ⟨oe,vs,oT,ts,fl,a1,a2,a3,a4,a5,a6,a7,a8⟩:=f
 have hz:0 < vs.size:=Nat.lt_of_succ_lt (Array.getElem?_eq_some_iff.mp a4).1
 exact ⟨vs[0],fl,oe,vs,T,oT,ts,a1,⟨a2,by simp [hz]⟩,a3,a4,hb,a5,a6,a7,a8⟩
noncomputable def Qk (n:Nat) (fw fx:Sl->Out (D×Sl)):Sl->Out (Fl×Sl):=fun ρ=>(fw ρ).bind fun p=>(fx p.2).bind fun q=>match (q.2[n]?:Option (Option D)) with
 | some (some (.dct kvs))=>(match KC q.1 with
  | some k=>if kvs.length < sizeLine then .ok (.nx,q.2.set n (some (.dct (qa7 kvs k p.1)))) else .bad
  | none=>.bad)
 | _=>.bad
section
variable {w:Expr} {fw fx:Sl->Out (D×Sl)} {mw:Mo} {p1 p2 p3:Pos}
theorem Ql (hu:X.A.units+64 < cLine) (hN:X.N[n]?=some x) (hv:Vis X.env.scope x) (ho:n∈own) (hw:PE X w (tE C own mw fw)) (hx:PE X ix (tE C own mx fx)) (hmw:mw≠.any:=by decide)
  (hd:(x == ("__debug__":Str))=false:=by decide) (hcd:(x == ("__classdict__":Str))=false:=by decide) (hs:swapsWith w (some (.Subscript (.Name x p1) ix p2)) p3.line X.env=pure false:=by rfl) :
  PS X (.Assign [.Subscript (.Name x p1) ix p2] w p3) (tSt C own own (Qk n fw fx)):=by
 refine gm (qb5 (by omega) (uW hN hv hd hcd) hx (ux hw hmw) hs) fun Dn σ H ⟨F,ρ,rp,h⟩=>⟨F,ρ,rp,PoS.bindE h fun v F1 H1 d ρ1 rp1 c1 mo1 h1=>?_⟩
 have mo1:Is C.K F1 v d:=mo1
 obtain ⟨d0,hd0⟩:=rp1.opn n ho
 obtain ⟨a,e1,hF,o0⟩:=rp1.ow n d0 ho hd0
 refine ⟨_,e1,F1,ρ1,rp1,PoS.bindE h1 fun iv F2 H2 di ρ2 rp2 c2 mo2 h2=>?_⟩
 obtain ⟨d2,hd2⟩:=rp2.opn n ho
 obtain ⟨a',e2,hF2,o2⟩:=rp2.ow n d2 ho hd2
 rw [e1] at e2
 cases e2
 simp only [hd2] at h2
 cases d2 with
 | dct kvs=>
  cases q:KC di with
  | none=>simp only [q] at h2; exact h2.elim
  | some k=>
   simp only [q] at h2
   have hiv:=qfs mo2.top q
   subst hiv
   obtain ⟨kv,ex,ik⟩:=o2
   by_cases hz:kvs.length < sizeLine
   ·simp only [if_pos hz] at h2
    obtain ⟨r3,c3⟩:=rp2.write (u:=.dK (KK kv k v)) (d:=.dct (qa7 kvs k d)) ho e1 ⟨_,qo,ik.put (mo1.mono c2.grow)⟩
    exact ⟨a,_,rfl,DPut.k ex (by rw [ik.length]; exact hz),h2 σ F2 _ ⟨r3,c3,fun _ z=>.inl z,fun _ _=>rfl⟩⟩
   ·simp only [if_neg hz] at h2; exact h2.elim
 | _=>exact h2.elim
end
noncomputable def XC (i:Nat):Sl->Out (D×Sl):=fun ρ=>match (ρ[i]?:Option (Option D)) with
 | some (some (.lst (d::es)))=>.ok (d,ρ.set i (some (.lst es)))
 | _=>.bad
section
variable {px:Pos}
theorem qcE:MtR X "list.pop" (fun x vs H Q=>∃ l v xs,x=.ref l/\vs=[.int 0]/\H l=some (.lst (v::xs))/\Q v (upd H l (.lst xs))):=by
 intro pins s σ H x vs v us Q I rx rv h
 obtain ⟨l,y,xs,rfl,rfl,hH,q⟩:=h
 exact Gp pins s σ H _ _ v us Q I rx rv ⟨l,_,0,0,y,rfl,rfl,hH,by decide,by decide,by simp [seqIndex?],rfl,q⟩
theorem qcF {j:Nat} {pz:Pos} (hN:X.N[i]?=some x) (hv:Vis X.env.scope x) (ho:i∈own) (hd:(x == ("__debug__":Str))=false:=by decide) (hcd:(x == ("__classdict__":Str))=false:=by decide)
  (hbase:attributeBase (.Name x px) "pop" X.env (eval (.Name x px) X.env)=eval (.Name x px) X.env:=by rfl) (hline:(apos.endLine == cpos.line)=true:=by rfl)
  (hfew:((backTo cpos (starEach [.Constant (.int 0) j pz] X.env)).all (fun x=>!x.1)&&(backToKw cpos (keywordEach [] X.env)).all (fun x=>x.1.isSome)
   && decide ([Expr.Constant (.int 0) j pz].length+([]:List Keyword).length+(if ([]:List Keyword).isEmpty then 0 else 1) < 30))=true:=by exact yc rfl)
  (hs:starEach [.Constant (.int 0) j pz] X.env=[(false,eval (.Constant (.int 0) j pz) X.env)]:=by exact qR rfl) :
  PE X (.Call (.Attribute (.Name x px) "pop" apos) [.Constant (.int 0) j pz] [] cpos) (tE C own .sh (XC i)):=by
 refine jR (Gn dw PySem.F.slot_list_pop PySem.F.type_list_pop qcE (uW hN hv hd hcd) (qV qaV jM hs) hbase hfew hline hs rfl) fun σ H Q ⟨F,ρ,rp,h⟩=>?_
 obtain ⟨d0,hd0⟩:=rp.opn i ho
 obtain ⟨a,e1,hF,o0⟩:=rp.ow i d0 ho hd0
 unfold XC at h
 simp only [hd0] at h
 cases d0 with
 | lst es=>
  cases es with
  | nil=>exact h.elim
  | cons d es=>
   obtain ⟨xs,ex,il⟩:=o0
   cases il with
   | cons iv il=>
    refine ⟨_,e1,.inl ⟨rfl,_,.inl (.inl ex)⟩,?_⟩
    obtain ⟨r2,c3⟩:=rp.write (u:=.lst _) (d:=.lst es) ho e1 ⟨_,qo,il⟩
    exact ⟨a,_,_,rfl,rfl,ex,h _ F _ r2 c3 iv⟩
 | _=>exact h.elim
end
noncomputable def qfD (kvs:List (Key×D)) (k:Key) (d:D):D:=match kvs.find? fun kv=>decide (kv.1=k) with
 | some kv=>kv.2
 | none=>d
noncomputable def qad (fo fe ff:Sl->Out (D×Sl)):Sl->Out (D×Sl):=fun ρ=>(fo ρ).bind fun p=>if (match p.1 with | .dct _=>true | _=>false)=true then (fe p.2).bind fun q=>(ff q.2).bind fun r=>(match p.1 with
 | .dct kvs=>(match KC q.1 with
  | some k=>.ok (qfD kvs k r.1,r.2)
  | none=>.bad)
 | _=>.bad) else .bad
theorem IsK.miss {k:Key}:∀ {vs:List (Key×V)} {ds:List (Key×D)},IsK K F vs ds->(ds.find? fun kv=>decide (kv.1=k))=none->KB vs k=none
 | _,_,.nil,e=>rfl
 | _,_,.cons (k:=k') (vs:=vs) h t,e=>by
  by_cases q:k'=k
  ·rw [bH (by simp [q])] at e
   cases e
  ·rw [bw (by simp [q])] at e
   rw [yb q]
   exact IsK.miss t e
section
variable {o e f:Expr} {fo fe ff:Sl->Out (D×Sl)} {me mf:Mo}
theorem qcG (hu:X.A.units+64 < cLine) (ho:PE X o (tE C own .sh fo)) (he:PE X e (tE C own me fe)) (hf:PE X f (tE C own mf ff)) (hmf:mf≠.any:=by decide) (hme:me≠.any:=by decide)
  (hbase:attributeBase o "get" X.env (eval o X.env)=eval o X.env:=by rfl)
  (hfew:((backTo cpos (starEach [e,f] X.env)).all (fun x=>!x.1)&&(backToKw cpos (keywordEach [] X.env)).all (fun x=>x.1.isSome)
   && decide (([e,f]:List Expr).length+([]:List Keyword).length+(if ([]:List Keyword).isEmpty then 0 else 1) < 30))=true:=by exact yc rfl)
  (hline:(apos.endLine == cpos.line)=true:=by rfl) (htr:backTo cpos (starEach [e,f] X.env)=[(false,eval e X.env),(false,eval f X.env)]:=by rfl) :
  PE X (.Call (.Attribute o "get" apos) [e,f] [] cpos) (tE C own .sh (qad fo fe ff)):=by
 refine jR (Gv (by omega) ho he (ux hf hmf) ⟨hbase,hfew,hline,htr⟩) fun σ H Q ⟨F,ρ,rp,h⟩=>?_
 refine ⟨F,ρ,rp,Po.bind h fun v F1 H1 d ρ1 rp1 c1 mo1 h1=>?_⟩
 have mo1:Is C.K F1 v d:=mo1
 cases d with
 | dct kvs=>
  simp only [if_true] at h1
  cases mo1 with
  | dct ha ik=>
   rename_i a kv
   refine ⟨a,rfl,.inl ⟨kv,.inl (rp1.sub _ _ ha)⟩,F1,ρ1,rp1,Po.bind h1 fun y F2 H2 dy ρ2 rp2 c2 mo2 h2=>?_⟩
   refine ⟨F2,ρ2,rp2,Po.bind h2 fun z F3 H3 dz ρ3 rp3 c3 mo3 h3=>?_⟩
   have mo3:Is C.K F3 z dz:=mo3
   cases q:KC dy with
   | none=>simp only [q] at h3; exact h3.elim
   | some k=>
    simp only [q] at h3
    have hy:=qfs mo2.top q
    subst hy
    have g23:F3 a=some (.dK kv):=c3.grow _ _ (c2.grow _ _ ha)
    have ik3:IsK C.K F3 kv kvs:=(ik.mono c2.grow).mono c3.grow
    refine ⟨KB kv k,.inl ⟨kv,k,.inl (rp3.sub _ _ g23),rfl,rfl⟩,?_⟩
    unfold qfD at h3
    cases q2:kvs.find? fun kv=>decide (kv.1=k) with
    | none=>
     simp only [q2] at h3
     rw [ik3.miss q2]
     exact h3 z F3 H3 rp3 .refl mo3
    | some kd=>
     simp only [q2] at h3
     obtain ⟨w,e1,e2⟩:=ik3.find q2
     rw [e1]
     exact h3 w F3 H3 rp3 .refl e2
 | _=>exact h1.elim
end
end L2.D2
namespace L2.D2
open PySem PySem.Spec PyProof.Rows PySem.W
section
variable {prog:Program} {w:World} {A:Around} {E:Value->Shared->Prop} {s:Shared} {T:String} {r d:Addr} {n:Nat} {P:Nat->Value->Prop} {OK:Heap->Prop}
theorem XD {Q:List Value->Shared->Prop} (K:KdlSrc prog w T r d n P OK) (hh:A.handled=none) (hok:OK s.heap) (hn:n<=sizeLine)
  (hQ:∀ h' tk acc,(∀ b o,s.heap.get? b=some o->h'.get? b=some o)->ItemsOf P acc n->Q acc.toList { s with heap:=h',toks:=tk }):wpAny (model prog w) A (collect (.ref r)) Q E s:=by
 unfold collect
 refine wpAny_bind (wpAny_runValue (codeAny_builtin F.entry_proto_collect ?_))
 rw [be F.plain_proto_collect _]
 show wpAny _ A.in1 (newList [] >>= fun l=>again (.builtin "list.__iadd__" ⟨[l,.ref r],[]⟩)) _ _ s
 refine wpAny_bind (wpAny_newObj_type ?_)
 refine wpAny_pure ⟨plainId_quiet F.plain_list_iadd _,codeAny_builtin F.entry_list_iadd ?_⟩
 rw [be F.plain_list_iadd _]
 have hlt:=K.there _ hok
 have hS:(s.heap.push { cls:=.type "list",data:=.seq ([]:List Value).toArray }).get? s.heap.objs.size=some { cls:=.type "list",data:=.seq ([]:List Value).toArray }:=ao _ rfl
 show wpAny _ A.in1 (bi (.ref s.heap.objs.size) (.ref r) (.ref s.heap.objs.size)) _ _ _
 refine kdl_extend (R:=fun r s'=>match r with
  | .ok (.ret v)=>wpAny (model prog w) A (match v with
   | .ref a=>do
    let o <-load a
    match o.data with
     | .seq xs _=>pure xs.toList
     | _=>unsupported "internal:collect"
   | _=>unsupported "internal:collect") Q E s'
  | .ok _=>False
  | .error e=>E e s') (s:={ s with heap:=s.heap.push { cls:=.type "list",data:=.seq ([]:List Value).toArray } }) K hh (K.keep _ _ hok fun b _ o e=>ae _ e) _ (c7 hlt.1) (c7 hlt.2) _ 0 hS (fun h' tk acc' c' hk hS' hacc=>?_) hn
 show wpAny _ A (load s.heap.objs.size >>= _) _ _ _
 refine wpAny_bind (wpAny_load hS' ?_)
 exact wpAny_pure (hQ h' tk acc' (fun b o e=>hk b o (aE (ay e)) (ae _ e)) hacc)
theorem XE:∀ (ss:List Str) (us:List Value),us.length=ss.length->(∀ (j:Nat) (v:Value),us[j]?=some v->∃ x t,ss[j]?=some x/\v=eR x t)->StrsAre us ss
 | [],[],_,_=>.nil
 | [],_::_,h,_=>by cases h
 | _::_,[],h,_=>by cases h
 | x::ss,u::us,h,k=>by
  obtain ⟨x',t,e1,e2⟩:=k 0 u rfl
  cases e1
  rw [e2]
  refine .cons _ t (XE ss us (by simpa using h) fun j v e=>?_)
  simpa using k (j+1) v (by simpa using e)
theorem qae {ss:List Str} {Q:Value->Shared->Prop} (K:KdlSrc prog w T r d n P OK) (hh:A.handled=none) (hok:OK s.heap) (hss:∀ acc:Array Value,ItemsOf P acc n->StrsAre acc.toList ss) (h64:ss.length < 64) (hn:n<=sizeLine)
  (hQ:∀ (h1 h':Heap) tk vs e ss',(∀ b o,s.heap.get? b=some o->h1.get? b=some o)->(∀ b o,h1.get? b=some o->h'.get? b=some o)->h'.get? h1.objs.size=some (seqObj "list" vs e)->StrsAre vs.toList ss'->ss'.Perm ss->sortedS ss'=true->Q (.ref h1.objs.size) { s with heap:=h',toks:=tk }) :
  wpAny (model prog w) A (call (.builtin "sorted") [.ref r]) Q E s:=by
 refine Calls.call_function_entry kind_sorted plain_sorted entry_sorted (args_sorted1 _) ?_; unfold Builtin.«sorted»
 refine wpAny_bind (m:=checkCount "sorted" 1 1 _) (wpAny_pure ?_)
 refine wpAny_bind (XD (A:=A.in1) K (show A.in1.handled=none from hh) hok hn fun h1 tk acc k1 hi=>?_)
 have hst:=hss acc hi
 have hl:acc.toList.length < 64:=by rw [hst.length]; exact h64
 refine wpAny_bind (wpAny_newList ?_ (by rw [sizeLine_eq]; omega))
 have hoL:(h1.push (seqObj "list" acc.toList.toArray 0)).get? h1.objs.size=some (seqObj "list" acc.toList.toArray 0):=ao _ rfl
 refine wpAny_bind (wpAny_holding (wpAny_call_entry slot_list_sort (s:={ s with heap:=h1.push (seqObj "list" acc.toList.toArray 0),toks:=tk }) ⟨_,hoL,rfl⟩ entry_list_sort (list_sort_treeK strKind_oneLt hoL hst.keysOf (fun v₁ v₂ rest e=>keyKind_strs (by rw [<-e]; exact hst)) hl fun st' a1 a2=>⟨_,rfl,?_⟩) (args_list_sort _)))
 obtain ⟨ss',b1,b2,b3⟩:=sorted_out_str hst a1 a2
 obtain ⟨e,he⟩:=sortedHeap_at (out:=(arrOf st').map (·.2)) hoL
 refine wpAny_pure ⟨_,rfl,hQ h1 _ tk _ e ss' k1 (fun b o eb=>?_) he b1 b2 b3⟩
 have hb:=ay eb
 rw [sortedHeap_old (aE hb) (by rw [bP]; exact eI hb)]
 exact ae _ eb
end
variable {α:Type}
noncomputable def Vh:List (Key×α)->Option (List Str)
 | []=>some []
 | (.inr x,_)::l=>(Vh l).map (x::·)
 | (.inl _,_)::_=>none
theorem WE:∀ {l:List (Key×α)} {ss:List Str},Vh l=some ss->l.map (·.1)=ss.map bz
 | [],ss,h=>by cases h; rfl
 | (.inr x,_)::l,ss,h=>by
  obtain ⟨ss',e,rfl⟩:=bb.mp (show (Vh l).map (x::·)=some ss from h)
  rw [aC,aC,WE e]
 | (.inl _,_)::_,ss,h=>by cases h
theorem IsK.keys {K:Frag} {F:Hp}:∀ {kv:List (Key×V)} {ks:List (Key×D)},IsK K F kv ks->kv.map (·.1)=ks.map (·.1)
 | _,_,.nil=>rfl
 | _,_,.cons h t=>by rw [aC,aC,IsK.keys t]
theorem KV.keys:∀ {kv:List (Key×V)} {vs:List (Key×Value)},KV kv vs->kv.map (·.1)=vs.map (·.1)
 | _,_,.nil=>rfl
 | _,_,.cons h t=>by rw [aC,aC,h.1,KV.keys t]
noncomputable def vZ:D->Out D
 | .dct kvs=>(match Vh kvs with
  | some ss=>if ss.length < 64/\(ss.all fun y=>decide (y.length<=sizeLine))=true then .ok (.lst ((kQ ss).map D.str)) else .bad
  | none=>.bad)
 | _=>.bad
section
variable {X:Cx} {C:Ct} {own:List Nat} {e:Expr} {fa:Sl->Out (D×Sl)} {ma:Mo} {pos:Pos}
theorem UR (hc:X.calm=true):JB X C .fr (.builtin "sorted") vZ:=by
 intro pins s σ H xs us Q I r h
 obtain ⟨x,F,dx,rfl,sb,tx,po⟩:=h
 obtain ⟨u,rfl,ru⟩:=uG r
 cases dx with
 | dct kvs=>
  obtain ⟨a,kv,rfl,hH,ik⟩:=tx.dct sb
  cases ru
  cases q:Vh kvs with
  | none=>simp only [vZ,q] at po; exact po.elim
  | some ss=>
   simp only [vZ,q] at po
   by_cases hl:ss.length < 64/\(ss.all fun y=>decide (y.length<=sizeLine))=true
   ·rw [if_pos hl] at po
    obtain ⟨hz,hsys,vs,rel,dd⟩:=(show ObjOk X.prog X.w H s.heap a (.dK kv) from I.hok a _ hH)
    obtain ⟨ep,da⟩:=dd.dictAt
    have hk:vs.map (·.1)=ss.map bz:=by rw [<-KV.keys rel,ik.keys,WE q]
    have hlen:vs.length=ss.length:=by have:=congrArg fj hk; simpa using this
    refine qae (kdl_dict (kvs:=vs) (ep:=ep) hsys) (I.ok.hd hc) da (fun acc hi=>XE _ _ (by rw [bN,hi.1,hlen]) fun j v e=>?_) hl.1 (by rw [hlen,sizeLine_eq]; omega) fun h1 h' tk us e ss' k1 k2 hp st pm so=>?_
    ·obtain ⟨k,x,e1,e2⟩:=hi.2 j v (by rw [<-bj]; exact e)
     have e3:(vs.map (·.1))[j]?=some k:=by rw [aG,e1]; rfl
     rw [hk,aG] at e3
     obtain ⟨y,e4,rfl⟩:=bb.mp e3
     rcases jh (show Je (bz y) v=true from e2) with ⟨i,t,e5,_⟩ | ⟨z,t,e5,rfl⟩
     ·cases e5
     ·cases e5
      exact ⟨_,t,e4,rfl⟩
    ·rw [JX pm so] at st
     have I1:Inv X pins σ H { s with heap:=h1,toks:=tk }:=I.kept (t':=tk) k1
     have hz:(kQ ss).length<=sizeLine:=by
      rw [(qX _).length_eq,sizeLine_eq]
      omega
     have hq:H h1.objs.size=none:=I1.hok.fresh (ax _)
     obtain ⟨s2,c2,f2⟩:=vW (u:=.lst ((kQ ss).map V.str)) sb hq
     exact ⟨.ref h1.objs.size,_,I1.laid (t':=tk) (o:=.lst ((kQ ss).map V.str)) k2 (ax _) ⟨by rw [au]; exact hz,us.toList,e,zB st,by simpa [seqObj] using hp⟩,rfl,po _ _ _ s2 c2 ⟨_,rfl,hq,f2,_,qo,Qi fun y hy2=>by
      have:=(qX _).mem_iff.mp hy2
      exact of_decide_eq_true (bp.mp hl.2 y this)⟩⟩
   ·rw [if_neg hl] at po; exact po.elim
 | _=>exact po.elim
end
end L2.D2
namespace PySem.F
theorem nolen_lri:typeLookup (.type "list_reverseiterator") "__len__"=pure none:=by rw [typeLookup_type,builtinLookup_eq_fast]; kernel_rfl
theorem hint_lri:typeLookup (.type "list_reverseiterator") "__length_hint__"=pure (some (.builtin "list_reverseiterator.__length_hint__")):=by rw [typeLookup_type,builtinLookup_eq_fast]; kernel_rfl
end PySem.F
namespace L2.D2
open PySem PySem.Spec PyProof.Rows PySem.W
section
variable {prog:Program} {w:World} {A:Around} {E:Value->Shared->Prop} {s:Shared} {I l:Addr} {items:Array Value}
theorem US {R:Result->Shared->Prop} (hh:A.handled=none) (hne:l≠I) (hit:s.heap.IsRevIter I l ((items.size:Int) - 1)) (hl:s.heap.IsList l items) (S:Addr) (hSI:S≠I) (hSl:S≠l) (res:Value) (c₀:Nat) (hS:s.heap.get? S=some { cls:=.type "list",data:=.seq #[] c₀ })
  (hR:∀ h' tk acc' c',(∀ b o,b≠S->b≠I->s.heap.get? b=some o->h'.get? b=some o)->h'.get? S=some { cls:=.type "list",dict:=none,data:=.seq acc' c',slots:=#[] }->ItemsOf (fun i v=>items[items.size - 1 - i]?=some v) acc' items.size->R (.ok (.ret res)) { s with heap:=h',toks:=tk }) (hn:items.size<=sizeLine) :
  wpAny (model prog w) A.in1 (bi (.ref S) (.ref I) res)
   (fun fin s'=>match fin with | .done f=>R (.ok f) s' | .again c'=>c'.quiet=true/\codeAny (model prog w) A c' R s') (fun e s'=>R (.error e) s') s:=by
 have W:=Walks.listRev (prog:=prog) (w:=w) (A:=A.in1) hh I l hne items
 have hSf:S∉[I,l]:=by simp only [ac,aJ,or_false,not_or]; exact ⟨hSI,hSl⟩
 have st:0<=items.size/\s.heap.IsRevIter I l ((items.size:Int) - 1 - ((0:Nat):Int))/\s.heap.IsList l items:=⟨bB _,by simpa using hit,hl⟩
 unfold bi
 refine wpAny_bind (wpAny_typeOf hit.typeIs ?_)
 have h1:cH (.ref S) (.ref I)=false:=by simp [cH,hSI]
 rw [if_neg (by rw [h1]; decide)]
 refine wpAny_bind (W.self 0 _ _ _ st ?_)
 refine wpAny_bind (wpAny_holding ?_)
 unfold Builtin.List.listLengthHint
 refine wpAny_bind (wpAny_specialOf hit.typeIs F.nolen_lri ?_)
 show wpAny _ A.in1 (specialOf (cf I) (aP "__length_hint__") >>= _) _ _ _
 refine wpAny_bind (wpAny_specialOf hit.typeIs F.hint_lri ?_)
 generalize hid:("list_reverseiterator.__length_hint__":String)=id0
 wp_delta
 rw [show splitId id0=some ("list_reverseiterator", "__length_hint__") from by subst hid; decide +kernel]
 subst hid
 refine wpAny_bind (wpAny_isInstance (b:=true) hit.typeIs (by rw [isSubtype_type]; kernel_rfl) ?_)
 refine wpAny_pure ?_
 rw [if_neg (by decide)]
 refine wpAny_pure ⟨plainId_quiet F.plain_extend_loop _,codeAny_extend_loopS W.toS hn S hSf res items.size 0 _ #[] c₀ rfl (bB _) st hS (ItemsOf.nil _) fun s' acc' c' hm hS' hacc=>?_⟩
 rw [Moved.eq_with hm]
 refine hR s'.heap s'.toks acc' c' (fun b o hb hb2 e=>hm.heap b o (fun hmem=>?_) e) hS' hacc
 rcases ac.mp hmem with e' | hmem
 ·exact hb e'
 ·exact hb2 (am.mp hmem)
theorem qaf {Q:Value->Shared->Prop} (hh:A.handled=none) (hne:l≠I) (hit:s.heap.IsRevIter I l ((items.size:Int) - 1)) (hl:s.heap.IsList l items) (hn:items.size<=sizeLine)
  (hQ:∀ h' tk acc' c',(∀ b o,b≠I->s.heap.get? b=some o->h'.get? b=some o)->h'.get? s.heap.objs.size=some { cls:=.type "list",dict:=none,data:=.seq acc' c',slots:=#[] }->ItemsOf (fun i v=>items[items.size - 1 - i]?=some v) acc' items.size->Q (.ref s.heap.objs.size) { s with heap:=h',toks:=tk }) :
  wpAny (model prog w) A (call (.type "list") [.ref I]) Q E s:=by
 refine callType_codes (Q₁:=fun obj s₁=>obj=.ref s.heap.objs.size/\s₁={ s with heap:=s.heap.push { cls:=.type "list",data:=.seq #[] } }) PySem.F.called_list (PySem.F.typeCall_list_1 _) PySem.F.entry_list_init
  (code_list_new _ ⟨rfl,rfl⟩) fun obj s₁ h₁=>?_
 obtain ⟨rfl,rfl⟩:=h₁
 have hS:(s.heap.push { cls:=.type "list",data:=.seq #[] }).get? s.heap.objs.size=some { cls:=.type "list",data:=.seq #[] }:=ao _ rfl
 obtain ⟨oI,hoI,_⟩:=id hit
 obtain ⟨ol,hol,_⟩:=id hl
 have hSI:s.heap.objs.size≠I:=c7 (ay hoI)
 have hSl:s.heap.objs.size≠l:=c7 (ay hol)
 refine ⟨⟨_,hS,rfl⟩,PySem.F.args_list_init_2 _ _,?_⟩
 show wpAny _ _ (do let old <-Builtin.List.listItems (.ref s.heap.objs.size); Builtin.List.listUpdate (.ref s.heap.objs.size) (fun _=>#[]); letGo old.toList.reverse; bi (.ref s.heap.objs.size) (.ref I) .none) _ _ _
 refine wpAny_bind ?_
 unfold Builtin.List.listItems
 refine wpAny_bind (wpAny_seqItems hS rfl (wpAny_pure ?_))
 show wpAny _ _ (updateSeq s.heap.objs.size (fun _=>#[]) >>= fun _=>letGo (#[]:Array Value).toList.reverse >>= fun _=>bi (.ref s.heap.objs.size) (.ref I) .none) _ _ _
 refine wpAny_bind (wpAny_updateSeq hS rfl ?_)
 have hS₂:=aN (cE (fun _=>(#[]:Array Value))) hS rfl
 have oth:∀ b o,b≠s.heap.objs.size->s.heap.get? b=some o->((s.heap.push { cls:=.type "list",data:=.seq #[] }).update s.heap.objs.size (cE (fun _=>(#[]:Array Value)))).get? b=some o:=
  fun b o hb e=>(aS _ _ (bv hb)).trans (ae _ e)
 refine wpAny_bind (wpAny_letGo ?_)
 refine US (A:=A.in1) hh hne (hit.at fun o e=>oth I o hSI.symm e) (hl.at fun o e=>oth l o hSl.symm e) _ hSI hSl .none _ hS₂ (fun h' tk acc' c' hk hS' hacc=>?_) hn
 exact ⟨rfl,hQ h' tk acc' c' (fun b o hb e=>hk b o (aE (ay e)) hb (oth b o (aE (ay e)) e)) hS' hacc⟩
end
noncomputable def yr:D->Out D
 | .lst xs=>.ok (.lst xs.reverse)
 | _=>.bad
theorem qag {vs:List V} {its:List Value} {acc:Array Value} (r:Vals vs its) (h:ItemsOf (fun i v=>its.toArray[its.toArray.size - 1 - i]?=some v) acc its.toArray.size):Vals vs.reverse acc.toList:=by
 have e:acc.toList=its.reverse:=by
  apply dJ
  intro j
  have hs:acc.size=its.length:=by simpa using h.1
  by_cases hj:j < its.length
  ·have hv:acc.toList[j]?=some (acc.toList[j]'(by rw [bN]; omega)):=af _
   have h2:=h.2 j _ (by rw [<-bj]; exact hv)
   rw [hv,List.getElem?_reverse hj,<-h2]
   simp
  ·rw [bZ (by rw [bN]; omega),bZ (by rw [List.length_reverse]; omega)]
 rw [e]
 exact r.reverse
theorem XF {K:Frag} {F:Hp}:∀ {vs:List V} {ds:List D},IsL K F vs ds->IsL K F vs.reverse ds.reverse
 | _,_,.nil=>.nil
 | _,_,.cons h t=>by
  rw [cT,cT]
  exact (XF t).append (.cons h .nil)
section
variable {X:Cx} {C:Ct} {own:List Nat} {e:Expr} {fa:Sl->Out (D×Sl)} {ma:Mo} {pos:Pos}
theorem UT {p p2 pos2:Pos} (hK:C.K=X.K) (hc:X.calm=true) (hg:Gl X "list") (hm:X.mg "list"=none) (hv:bootBuiltins "list"=some (.type "list")) (hg2:Gl X "reversed") (hm2:X.mg "reversed"=none) (hv2:bootBuiltins "reversed"=some (.type "reversed")) (ha:PE X e (tE C own ma fa))
  (he:starEach [e] X.env=[(false,eval e X.env)]:=by exact qR rfl) (he2:starEach [.Call (.Name "reversed" p2) [e] [] pos2] X.env=[(false,eval (.Call (.Name "reversed" p2) [e] [] pos2) X.env)]:=by exact qR rfl) :
  PE X (.Call (.Name "list" p) [.Call (.Name "reversed" p2) [e] [] pos2] [] pos) (tE C own .fr (d1 yr fa)):=by
 refine ⟨?_⟩
 intro pins s σ H Q I h
 refine wpAny_Call_Name_kw (uX I hg hm hv ?_ (by decide) (by decide))
 refine bh ?_ (by rw [he2]; rfl) rfl
 rw [he2]
 show wpAny _ _ (spliced ((false,eval (.Call (.Name "reversed" p2) [e] [] pos2) X.env)::[])) _ _ s
 refine dk ?_
 refine wpAny_Call_Name_kw (uX I hg2 hm2 hv2 ?_ (by decide) (by decide))
 refine bh (thn ((qV ha jM he) pos2 pins s σ H _ I (yP (ma:=ma) h)) fun us s1 ⟨vs,H1,I1,r1,q1⟩=>?_) (by rw [he]; rfl) rfl
 obtain ⟨x,F,dx,rfl,sb,tx,po⟩:=q1
 obtain ⟨u,rfl,ru⟩:=uG r1
 cases dx with
 | lst ds=>
  obtain ⟨a,vs,rfl,hq,t⟩:=tx.lst sb
  rw [hK] at hq
  cases ru
  obtain ⟨its,rv,pl0,hz⟩:=I1.list hq
  have pl:s1.heap.IsList a its.toArray:=by
   obtain ⟨o,n,ho,hc1,_,hdt⟩:=pl0
   exact ⟨o,ho,hc1,n,hdt⟩
  refine call_reversed_list pl ?_
  refine eD ?_
  have hs1:=ao (h:=s1.heap) (o:=revObj a ((its.toArray.size:Int) - 1)) 
  have pl2:(s1.heap.push (revObj a ((its.toArray.size:Int) - 1))).IsList a its.toArray:=pl.at fun o eo=>ae _ eo
  obtain ⟨oa,hoa,_⟩:=id pl
  have hne:a≠s1.heap.objs.size:=aE (ay hoa)
  refine qaf (s:={ s1 with heap:=s1.heap.push (revObj a ((its.toArray.size:Int) - 1)) }) (I.ok.hd hc) hne ⟨_,ao _ rfl,rfl,rfl⟩ pl2 (by rw [aq,<-rv.length]; exact hz) fun h' tk acc c kp hp hi=>?_
  have kp2:∀ b o,s1.heap.get? b=some o->h'.get? b=some o:=fun b o eo=>kp b o (aE (ay eo)) (ae _ eo)
  have hsz:(s1.heap.push (revObj a ((its.toArray.size:Int) - 1))).objs.size=s1.heap.objs.size+1:=bP ..
  have hq2:H1 (s1.heap.objs.size+1)=none:=I1.hok.fresh (eE _)
  obtain ⟨s2,c2,f2⟩:=vW (u:=.lst vs.reverse) sb hq2
  have hp:h'.get? (s1.heap.objs.size+1)=some { cls:=.type "list",dict:=none,data:=.seq acc c,slots:=#[] }:=by rw [<-hsz]; exact hp
  have goal:EP X pins σ Q (.ref (s1.heap.objs.size+1)) { s1 with heap:=h',toks:=tk }:=
   ⟨.ref (s1.heap.objs.size+1),_,I1.laid (t':=tk) (o:=.lst vs.reverse) kp2 (eE _) ⟨by rw [List.length_reverse]; exact hz,acc.toList,c,qag rv hi,by simpa using hp⟩,rfl,po _ _ _ s2 c2 ⟨_,rfl,hq2,f2,_,qo,XF t⟩⟩
  rw [<-hsz] at goal
  exact goal
 | _=>exact po.elim
end
end L2.D2
namespace L2.D2
open PySem PySem.Spec PyProof.Rows
open PySem.SeqAt
open AutoSeq1 (wpAny_loadPart')
open MeetsSeq MeetsSeq2 MeetsSeq3
def RcLtAt (A:Around) (s:Shared) (y x:Value) (b:Bool):Prop:=
 ∀ (prog:Program) (w:World) (E:Value->Shared->Prop) (Q:Value->Shared->Prop),Q (.bool b) s->wpAny (model prog w) A (richCompare .Lt y x) Q E s
def LtL (A:Around) (s:Shared) (k b:Bool):List (Value×Value)->Prop
 | []=>b=k
 | (y,x)::t=>(EqAt A.in1 s y x true/\LtL A s k b t)\/(EqAt A.in1 s y x false/\RcLtAt A.in1 s y x b)
theorem UU (l b:Addr) (items items2:Array Value) (n n2:Nat) (dd dd2:Option Addr) (sl sl2:Array (Option Value)) (c:Bool) :
  Meets (Builtin.«tuple.__lt__» ⟨[.ref l,.ref b],[]⟩)
   (fun A R s=>s.heap.get? l=some { cls:=.type "tuple",dict:=dd,data:=.seq items n,slots:=sl }/\s.heap.get? b=some { cls:=.type "tuple",dict:=dd2,data:=.seq items2 n2,slots:=sl2 } /\
    LtL A s (decide (items.size < items2.size)) c (items.toList.zip items2.toList)/\R (.ok (.ret (.bool c))) s):=
 .of_wp fun prog w A R s h=>by
  obtain ⟨hp,g,d,tk,os⟩:=s; obtain ⟨hl,hb,he,h⟩:=h
  have f2:=AutoSeq1.sub_tuple_tuple
  wp_walk using wpAny_loadPart' hl,wpAny_loadPart' hb,wpAny_forIn_list _ (fun rest b s'=>b.1=none/\s'=⟨hp,g,d,tk,os⟩/\LtL A ⟨hp,g,d,tk,os⟩ (decide (items.size < items2.size)) c rest) _
  case turn=>
   rintro ⟨y,x⟩ rest b s' ⟨hb',rfl,hz⟩
   rcases hz with ⟨e1,hz⟩ | ⟨e1,hz⟩
   ·refine wpAny_bind (e1 prog w _ _ ?_)
    wp_walk
    exact ⟨rfl,rfl,hz⟩
   ·refine wpAny_bind (e1 prog w _ _ ?_)
    refine wpAny_bind (wpAny_rule (wpAny_bind (hz prog w _ _ ?_)))
    wp_walk
    exact ⟨_,rfl,h⟩
  case fin=>
   rintro ⟨b1,b2⟩ s' ⟨hb',rfl,hz⟩
   simp only at hb'
   subst hb'
   have hz:c=_:=hz
   subst hz
   wp_walk
   exact ⟨_,rfl,by simpa [Builtin.Tuple.tupleCompareSizes] using h⟩
  case h=>
   exact ⟨rfl,rfl,he⟩
variable {A:Around} {s:Shared}
theorem RcLtAt.tuples {l b:Addr} {items items2:Array Value} {c:Bool} (hl:s.heap.IsTuple l items) (hb:s.heap.IsTuple b items2) (hu:A.units < cLine)
  (he:LtL A s (decide (items.size < items2.size)) c (items.toList.zip items2.toList)):RcLtAt A s (.ref l) (.ref b) c:=fun prog w E Q h=>by
 obtain ⟨⟨cls,dd,data,sl⟩,ho,hc,n,hd⟩:=id hl
 obtain ⟨⟨cls2,dd2,data2,sl2⟩,ho2,hc2,n2,hd2⟩:=id hb
 simp only at hc hd hc2 hd2
 subst hc hd hc2 hd2
 exact richCompare_meets_room (op:=.Lt) ⟨_,ho,rfl⟩ ⟨_,ho2,rfl⟩ F.slot_tuple_lt F.entry_tuple_lt (F.args_tuple_lt_2 _ _) (UU l b items items2 n n2 dd dd2 sl sl2 c)
  ⟨ho,ho2,he,show cP c≠Value.notImplemented/\Q (.bool c) s from ⟨(fun x=>nomatch x),h⟩⟩ hu
noncomputable def qah (f g:D->D->Option Bool):List D->List D->Option Bool
 | x::xs,y::ys=>(f x y).bind fun a=>if a then qah f g xs ys else g x y
 | [],y::ys=>some true
 | _,[]=>some false
noncomputable def ltN:Nat->D->D->Option Bool
 | n+1,.tup xs,.tup ys=>qah (eqN n) (ltN n) xs ys
 | _,.int i,.int j=>some (decide (i < j))
 | _,_,_=>none
section
variable {X:Cx} {pins:List (Addr×Obj)} {σ:St} {F H:Hp}
theorem qeA {A:Around} {n:Nat} {b:Bool}
  (i1:∀ {v w:V} {d e:D} {u t:Value} {b:Bool},Is X.K F v d->Is X.K F w e->RelV v u->RelV w t->eqN n d e=some b->EqAt A.in1 s u t b)
  (i2:∀ {v w:V} {d e:D} {u t:Value} {b:Bool},Is X.K F v d->Is X.K F w e->RelV v u->RelV w t->ltN n d e=some b->RcLtAt A.in1 s u t b) :
  ∀ {xs ys:List V} {us ws:List Value} {ds es:List D},Vals xs us->Vals ys ws->IsL X.K F xs ds->IsL X.K F ys es->qah (eqN n) (ltN n) ds es=some b->LtL A s (decide (us.length < ws.length)) b (us.zip ws):=by
 intro xs
 induction xs with
 | nil=>
  intro ys us ws ds es r1 r2 j1 j2 h
  cases r1
  cases j1
  cases j2 with
  | nil=>cases r2; simp [qah] at h; simp [LtL,h]
  | cons _ _=>cases r2; simp [qah] at h; simp [LtL,h]
 | cons x xs ih=>
  intro ys us ws ds es r1 r2 j1 j2 h
  cases r1 with
  | cons a1 r1=>
  cases j1 with
  | cons b1 j1=>
  cases j2 with
  | nil=>cases r2; simp [qah] at h; simp [LtL,h]
  | cons b2 j2=>
   cases r2 with
   | cons a2 r2=>
    rename_i u us d ds _ _ _ _ w ws
    unfold qah at h
    cases q:eqN n d _ with
    | none=>rw [q] at h; simp at h
    | some k=>
     rw [q] at h
     cases k with
     | true=>
      have z:=ih r1 r2 j1 j2 (by simpa using h)
      refine .inl ⟨i1 b1 b2 a1 a2 q,?_⟩
      rw [show decide ((u::us).length < (w::ws).length)=decide (us.length < ws.length) by simp]
      exact z
     | false=>exact .inr ⟨i1 b1 b2 a1 a2 q,i2 b1 b2 a1 a2 (by simpa using h)⟩
theorem qai {A:Around} {n:Nat} {a c:Addr} {xs ys:List V} {ds es:List D} {b:Bool} (I:Inv X pins σ H s)
  (i1:∀ {v w:V} {d e:D} {u t:Value} {b:Bool},Is X.K F v d->Is X.K F w e->RelV v u->RelV w t->eqN n d e=some b->EqAt A.in1 s u t b)
  (i2:∀ {v w:V} {d e:D} {u t:Value} {b:Bool},Is X.K F v d->Is X.K F w e->RelV v u->RelV w t->ltN n d e=some b->RcLtAt A.in1 s u t b)
  (p1:SqT X.K H a xs) (p2:SqT X.K H c ys) (j1:IsL X.K F xs ds) (j2:IsL X.K F ys es) (h:ltN (n+1) (.tup ds) (.tup es)=some b) (hu:A.units < cLine):RcLtAt A s (.ref a) (.ref c) b:=by
 obtain ⟨us,r1,t1,_⟩:=I.tuple p1
 obtain ⟨ws,r2,t2,_⟩:=I.tuple p2
 exact RcLtAt.tuples t1 t2 hu (by simpa using qeA i1 i2 r1 r2 j1 j2 h)
theorem gU {i j:Int} {t u:Tok}:RcLtAt A s (.int i t) (.int j u) (decide (i < j)):=fun prog w E Q h=>wpAny_lt_int h
theorem qeB (I:Inv X pins σ H s) (sb:Same F H):∀ (n:Nat) {A:Around} {v w:V} {d e:D} {u t:Value} {b:Bool},A.units+n < cLine->Is X.K F v d->Is X.K F w e->RelV v u->RelV w t->ltN n d e=some b->RcLtAt A s u t b:=by
 intro n
 induction n with
 | zero=>
  intro A v w d e u t b hu h1 h2 rx ry h
  cases d <;> try (cases h; done)
  cases e <;> try (cases h; done)
  cases h1
  cases h2
  obtain ⟨_,rfl⟩:=rx
  obtain ⟨_,rfl⟩:=ry
  cases h
  exact gU
 | succ n ih=>
  intro A v w d e u t b hu h1 h2 rx ry h
  cases d <;> try (cases h; done)
  ·cases e <;> try (cases h; done)
   cases h1
   cases h2
   obtain ⟨_,rfl⟩:=rx
   obtain ⟨_,rfl⟩:=ry
   cases h
   exact gU
  ·cases e <;> try (cases h; done)
   cases h1 with
   | tup p1 t1=>
   cases h2 with
   | tup p2 t2=>
    cases rx
    cases ry
    have hu1:A.in1.units+n < cLine:=by show A.units+1+n < cLine; omega
    exact qai I (fun a1 a2 a3 a4 a5=>Wf I sb n hu1 a1 a2 a3 a4 a5) (fun a1 a2 a3 a4 a5=>ih hu1 a1 a2 a3 a4 a5) (qD sb p1) (qD sb p2) t1 t2 h (by omega)
end
end L2.D2
namespace L2.D2
open PySem PySem.Spec PyProof.Rows
open PySem.SeqAt
variable {prog:Program} {w:World} {A:Around}
section
variable {R:Result->Shared->Prop} {I:Addr} {fp wr:List Addr} {G:Array GenState->Array GenState->Prop} {n:Nat} {P:Nat->Value->Prop} {St:Nat->Shared->Prop}
abbrev qhb (vs:Array Value) (c:Nat):Obj:={ cls:=.type "list",dict:=none,data:=.seq vs c,slots:=#[] }
theorem qaj (W:WalksS prog w A.in1 I fp wr G n P St) (bt:Nat->Nat->Bool) (S:Addr) (hSf:S∉fp) (K:Shared->Prop) (hmv:∀ s s',K s->Moved (S::wr) G s s'->K s')
  (hcmp:∀ i j vi vj (s:Shared) (Q:Value->Shared->Prop) (E:Value->Shared->Prop),K s->P i vi->P j vj->Q (.bool (bt i j)) s->wpAny (model prog w) A.in1 (richCompare .Lt vi vj) Q E s) :
  ∀ (k j:Nat) (s:Shared) (vb:Value) (c:Nat),n - (j+1)=k->j+1<=n->St (j+1) s->P (argBest bt j) vb->K s->s.heap.get? S=some (qhb #[vb,vb] c) ->
  (∀ v s',P (argBest bt (n - 1)) v->Moved (S::wr) G s s'->R (.ok (.ret v)) s')->codeAny (model prog w) A (.builtin "min.loop" ⟨[.ref I,.none,.ref S],[]⟩) R s:=by
 have hSw:S∉wr:=fun h=>hSf (W.sub _ h)
 have up:∀ b∈wr,b∈S::wr:=fun b hb=>aa _ hb
 have hname:(toString "min"++toString ".loop":String) = "min.loop":=by decide
 have nS:∀ {b:Addr},b∉S::wr->S≠b:=fun hb h=>hb (by rw [h]; exact ah)
 intro k
 induction k with
 | zero=>
  intro j s vb c hk hj hst hPb hKs hS hR
  have hin:j+1=n:=by omega
  refine codeAny_builtin eU ?_
  rw [be cn _]
  show wpAny _ A.in1 (seqItems? (.ref S) >>= _) _ _ s
  refine wpAny_bind (wpAny_seqItems hS rfl ?_)
  show wpAny _ A.in1 (tryCatch (pyNext (.ref I)) _ >>= _) _ _ s
  refine wpAny_bind (wpAny_tryCatch (W.done s _ _ (hin ▸ hst) fun s' hm=>?_))
  have hS':=hm.heap S _ hSw hS
  show wpAny _ A.in1 (updateSeq S (fun _=>#[]) >>= _) _ _ _
  refine wpAny_bind (wpAny_updateSeq hS' rfl (wpAny_bind (wpAny_letGo (wpAny_pure ?_))))
  exact hR vb _ (by rw [<-hin]; exact hPb) ((hm.mono up).then_heap (tk:=s'.toks) (ax _) fun b o hb e=>(aS _ _ (nS hb)).trans e)
 | succ k ih=>
  intro j s vb c hk hj hst hPb hKs hS hR
  have hlt:j+1 < n:=by omega
  refine codeAny_builtin eU ?_
  rw [be cn _]
  show wpAny _ A.in1 (seqItems? (.ref S) >>= _) _ _ s
  refine wpAny_bind (wpAny_seqItems hS rfl ?_)
  show wpAny _ A.in1 (tryCatch (pyNext (.ref I)) _ >>= _) _ _ s
  refine wpAny_bind (wpAny_tryCatch (W.item (j+1) s _ _ hlt hst fun v s' hP hst' hm=>?_))
  have hS':=hm.heap S _ hSw hS
  have hK':=hmv s s' hKs (hm.mono up)
  show wpAny _ A.in1 (tryCatch (holding [v,v] (richCompare .Lt v vb >>= _)) _ >>= _) _ _ _
  refine wpAny_bind (wpAny_tryCatch (wpAny_holding (wpAny_bind (hcmp (j+1) (argBest bt j) v vb _ _ _ hK' hP hPb ?_))))
  refine wpAny_bind (wpAny_holding (wpAny_truthy_bool ?_))
  refine wpAny_bind (wpAny_letGo (wpAny_pure ?_))
  cases hb:bt (j+1) (argBest bt j) with
  | true=>
   simp only [if_true]
   refine wpAny_bind (wpAny_updateSeq hS' rfl (wpAny_bind (wpAny_letGo ?_)))
   rw [hname]
   have hm2:∀ f:Obj->Obj,Moved (S::wr) G s { s' with heap:=s'.heap.update S f,toks:=s'.toks }:=fun f=>(hm.mono up).then_heap (tk:=s'.toks) (ax _) fun b o hb e=>(aS _ _ (nS hb)).trans e
   refine wpAny_pure ⟨plainId_quiet cn _,ih (j+1) _ v _ (by omega) hlt (W.frame _ s' _ s'.toks hst' (ax _) fun b hbf o e=>?_) (by simp only [argBest,hb,if_true]; exact hP) (hmv _ _ hKs (hm2 _)) (aN _ hS' rfl)
    fun v' s'' hP' hm''=>hR v' s'' hP' (fk W.gtrans (hm2 _) hm'')⟩
   exact (aS _ _ (fun h:S=b=>hSf (by rw [h]; exact hbf))).trans e
  | false=>
   simp only [ez,if_false]
   refine wpAny_bind (wpAny_letGo ?_)
   rw [hname]
   exact wpAny_pure ⟨plainId_quiet cn _,ih (j+1) _ vb c (by omega) hlt hst' (by simp only [argBest,hb,ez,if_false]; exact hPb) hK' hS' fun v' s'' hP' hm''=>
    hR v' s'' hP' (fk W.gtrans (hm.mono up) hm'')⟩
theorem XG (W:WalksS prog w A.in1 I fp wr G n P St) (bt:Nat->Nat->Bool) (S:Addr) (hSf:S∉fp) (hn:0 < n) (K:Shared->Prop) (hmv:∀ s s',K s->Moved (S::wr) G s s'->K s')
  (hcmp:∀ i j vi vj (s:Shared) (Q:Value->Shared->Prop) (E:Value->Shared->Prop),K s->P i vi->P j vj->Q (.bool (bt i j)) s->wpAny (model prog w) A.in1 (richCompare .Lt vi vj) Q E s)
  {s:Shared} {c:Nat} (hst:St 0 s) (hKs:K s) (hS:s.heap.get? S=some (qhb #[] c))
  (hR:∀ v s',P (argBest bt (n - 1)) v->Moved (S::wr) G s s'->R (.ok (.ret v)) s'):codeAny (model prog w) A (.builtin "min.loop" ⟨[.ref I,.none,.ref S],[]⟩) R s:=by
 have hSw:S∉wr:=fun h=>hSf (W.sub _ h)
 have up:∀ b∈wr,b∈S::wr:=fun b hb=>aa _ hb
 have hname:(toString "min"++toString ".loop":String) = "min.loop":=by decide
 have nS:∀ {b:Addr},b∉S::wr->S≠b:=fun hb h=>hb (by rw [h]; exact ah)
 refine codeAny_builtin eU ?_
 rw [be cn _]
 show wpAny _ A.in1 (seqItems? (.ref S) >>= _) _ _ s
 refine wpAny_bind (wpAny_seqItems hS rfl ?_)
 show wpAny _ A.in1 (tryCatch (pyNext (.ref I)) _ >>= _) _ _ s
 refine wpAny_bind (wpAny_tryCatch (W.item 0 s _ _ hn hst fun v s' hP hst' hm=>?_))
 have hS':=hm.heap S _ hSw hS
 show wpAny _ A.in1 (updateSeq S (fun _=>#[v,v]) >>= _) _ _ _
 refine wpAny_bind (wpAny_updateSeq hS' rfl ?_)
 rw [hname]
 have hm2:∀ f:Obj->Obj,Moved (S::wr) G s { s' with heap:=s'.heap.update S f,toks:=s'.toks }:=fun f=>(hm.mono up).then_heap (tk:=s'.toks) (ax _) fun b o hb e=>(aS _ _ (nS hb)).trans e
 refine wpAny_pure ⟨plainId_quiet cn _,qaj W bt S hSf K hmv hcmp _ 0 _ v _ rfl hn (W.frame _ s' _ s'.toks hst' (ax _) fun b hbf o e=>?_) hP (hmv _ _ hKs (hm2 _)) (aN _ hS' rfl) fun v' s'' hP' hm''=>hR v' s'' hP' (fk W.gtrans (hm2 _) hm'')⟩
 exact (aS _ _ (fun h:S=b=>hSf (by rw [h]; exact hbf))).trans e
end
section
variable {E:Value->Shared->Prop} {s:Shared}
theorem qak {l:Addr} {items:Array Value} {bt:Nat->Nat->Bool} {Q:Value->Shared->Prop} (hh:A.handled=none) (hl:s.heap.IsList l items) (hne:0 < items.size)
  (hcmp:∀ i j vi vj (h':Heap) (tk:Nat) (Q:Value->Shared->Prop) (E:Value->Shared->Prop),(∀ b o,s.heap.get? b=some o->h'.get? b=some o)->items[i]?=some vi->items[j]?=some vj->Q (.bool (bt i j)) { s with heap:=h',toks:=tk }->wpAny (model prog w) A.in1 (richCompare .Lt vi vj) Q E { s with heap:=h',toks:=tk })
  (h:∀ v h' tk,items[argBest bt (items.size - 1)]?=some v->(∀ b o,s.heap.get? b=some o->h'.get? b=some o)->Q v { s with heap:=h',toks:=tk }) :
  wpAny (model prog w) A (call (.builtin "min") [.ref l]) Q E s:=by
 have hlt:l < s.heap.objs.size:=by obtain ⟨_,e,_⟩:=hl; exact ay e
 have hname:(toString "min"++toString ".loop":String) = "min.loop":=by decide
 refine call_function_tree F.kind_min F.plain_min F.entry_min (F.args_min1 _) ?_
 show wpAny _ A.in1 (Builtin.Builtins.bindParams "min" ["key", "default"] 0 ⟨[],[]⟩ >>= _) _ _ s
 refine wpAny_bind (wpAny_of_eq (show Builtin.Builtins.bindParams "min" ["key", "default"] 0 ⟨[],[]⟩=pure [none,none] from rfl) ?_)
 refine wpAny_bind (wpAny_pure ?_)
 refine wpAny_bind (wpAny_pyIter_list hl ?_)
 refine wpAny_bind (wpAny_newObj_type ?_)
 rw [hname]
 have z1:(s.heap.push { cls:=.type "list_iterator",data:=.fields #[.ref l,.int 0 0] }).objs.size=s.heap.objs.size+1:=bP ..
 refine wpAny_pure ⟨plainId_quiet cn _,XG ((fL (A:=A.in1) hh s.heap.objs.size l (aE hlt) items).toS) bt _ ?_ hne (fun s'=>∃ h' tk,s'={ s with heap:=h',toks:=tk }/\∀ b o,s.heap.get? b=some o->h'.get? b=some o) ?_ ?_ ?_ ?_ (ao _ rfl) ?_⟩
 ·intro z
  simp only [ac,aJ,or_false] at z
  rw [z1] at z
  have hlt:@LT.lt Nat _ l s.heap.objs.size:=hlt
  rcases z with z | z
  ·have z:@Eq Nat _ _:=z
   omega
  ·have z:@Eq Nat _ _:=z
   omega
 ·rintro _ s2 ⟨h1,t1,rfl,k1⟩ hm
  obtain ⟨h',g',d',tk',os'⟩:=s2
  have eg:g'=s.gens:=hm.gens
  have ed:d'=s.drawn:=hm.drawn
  have eo:os'=s.os:=hm.os
  subst eg ed eo
  refine ⟨h',tk',rfl,fun b o e=>hm.heap b o (fun z=>?_) (k1 b o e)⟩
  have hb:@LT.lt Nat _ b s.heap.objs.size:=ay e
  simp only [ac,aJ,or_false] at z
  rw [z1] at z
  rcases z with z | z
  ·have z:@Eq Nat _ _:=z
   omega
  ·have z:@Eq Nat _ _:=z
   omega
 ·rintro i j vi vj _ Q' E' ⟨h1,t1,rfl,k1⟩ p1 p2 q
  exact hcmp i j vi vj h1 t1 Q' E' k1 p1 p2 q
 ·refine ⟨?_,?_⟩
  ·exact ⟨_,ae _ (ao _ rfl),rfl,rfl⟩
  ·exact (hl.push _).push _
 ·exact ⟨_,_,rfl,fun b o e=>ae _ (ae _ e)⟩
 ·rintro v s2 p1 hm
  obtain ⟨h',g',d',tk',os'⟩:=s2
  have eg:g'=s.gens:=hm.gens
  have ed:d'=s.drawn:=hm.drawn
  have eo:os'=s.os:=hm.os
  subst eg ed eo
  refine h v h' tk' p1 fun b o e=>hm.heap b o (fun z=>?_) (ae _ (ae _ e))
  have hb:@LT.lt Nat _ b s.heap.objs.size:=ay e
  simp only [ac,aJ,or_false] at z
  rw [z1] at z
  rcases z with z | z
  ·have z:@Eq Nat _ _:=z
   omega
  ·have z:@Eq Nat _ _:=z
   omega
end
noncomputable def ltZ:List Int->List Int->Bool
 | x::xs,y::ys=>if x=y then ltZ xs ys else decide (x < y)
 | [],_::_=>true
 | _,[]=>false
theorem Kb (k:Nat):∀ a b:List Int,qah (eqN k) (ltN k) (a.map D.int) (b.map D.int)=some (ltZ a b)
 | [],[]=>rfl
 | [],_::_=>rfl
 | _::_,[]=>rfl
 | x::a,y::b=>by
  have ih:=Kb k a b
  have e:eqN k (.int x) (.int y)=some (decide (x=y)):=by
   cases k <;> (by_cases q:x=y <;> simp [eqN,eqS,q])
  have e2:ltN k (.int x) (.int y)=some (decide (x < y)):=by
   cases k <;> simp [ltN]
  simp only [aC,qah,ih,e,e2,ltZ]
  by_cases q:x=y <;> simp [q]
noncomputable def gq:List D->Option (List (List Int))
 | []=>some []
 | .tup ds::l=>(zC ds).bind fun t=>(gq l).map (t::·)
 | _::_=>none
theorem WF:∀ {ds:List D} {l:List Int},zC ds=some l->ds=l.map D.int
 | [],l,h=>by cases h; rfl
 | d::ds,l,h=>by
  cases d with
  | int x=>
   have h:(zC ds).map (x::·)=some l:=h
   cases q:zC ds with
   | none=>rw [q] at h; cases h
   | some m=>
    rw [q] at h
    cases h
    rw [WF q]
    rfl
  | _=>cases h
theorem WG:∀ {ds:List D} {T:List (List Int)},gq ds=some T->ds=T.map fun t=>.tup (t.map D.int)
 | [],T,h=>by cases h; rfl
 | d::ds,T,h=>by
  cases d with
  | tup es=>
   have h:((zC es).bind fun t=>(gq ds).map (t::·))=some T:=h
   cases q:zC es with
   | none=>rw [q] at h; cases h
   | some t=>
    cases q2:gq ds with
    | none=>rw [q,q2] at h; cases h
    | some U=>
     rw [q,q2] at h
     cases h
     rw [WG q2,WF q]
     rfl
  | _=>cases h
noncomputable def Vi (t:List Int) (ts:List (List Int)):List Int:=ts.foldl (fun b t=>if ltZ t b then t else b) t
noncomputable def qal:D->Out D
 | .lst ds=>(match gq ds with
  | some (t::ts)=>.ok (.tup ((Vi t ts).map D.int))
  | _=>.bad)
 | _=>.bad
noncomputable def btZ (T:List (List Int)) (i j:Nat):Bool:=ltZ (T.getD i []) (T.getD j [])
theorem XH (t:List Int) (ts:List (List Int)):∀ k,k<=ts.length->(t::ts).getD (argBest (btZ (t::ts)) k) []=Vi t (ts.take k)
 | 0,_=>rfl
 | k+1,h=>by
  have ih:=XH t ts k (by omega)
  have hk:k < ts.length:=by omega
  have e:ts.take (k+1)=ts.take k++[ts[k]]:=by rw [List.take_add_one,af hk]; rfl
  have e2:(t::ts).getD (k+1) []=ts[k]:=by rw [List.getD_eq_getElem?_getD,List.getElem?_cons_succ,af hk]; rfl
  rw [e]
  unfold Vi at ih ⊢
  rw [eJ,<-ih]
  show (t::ts).getD (if btZ (t::ts) (k+1) (argBest (btZ (t::ts)) k) then k+1 else argBest (btZ (t::ts)) k) []=if ltZ ts[k] ((t::ts).getD (argBest (btZ (t::ts)) k) []) then ts[k] else (t::ts).getD (argBest (btZ (t::ts)) k) []
  rw [show btZ (t::ts) (k+1) (argBest (btZ (t::ts)) k)=ltZ ts[k] ((t::ts).getD (argBest (btZ (t::ts)) k) []) by unfold btZ; rw [e2]]
  by_cases q:ltZ ts[k] ((t::ts).getD (argBest (btZ (t::ts)) k) [])=true
  ·rw [if_pos q,if_pos q,e2]
  ·rw [if_neg q,if_neg q]
theorem qcH {X:Cx} {C:Ct} (hK:C.K=X.K) (hc:X.calm=true) (hu:X.A.units+64 < cLine):JB X C .sh (.builtin "min") qal:=by
 intro pins s σ H xs us Q I r h
 obtain ⟨x,F,dx,rfl,sb,tx,po⟩:=h
 cases dx with
 | lst ds=>
  obtain ⟨u,rfl,ru⟩:=uG r
  obtain ⟨a,vs,rfl,hq,il⟩:=tx.lst sb
  cases ru
  rw [hK] at hq il
  obtain ⟨its,rv,pl0,hz⟩:=I.list hq
  have pl:s.heap.IsList a its.toArray:=by
   obtain ⟨o,n,ho,hc1,_,hdt⟩:=pl0
   exact ⟨o,ho,hc1,n,hdt⟩
  have po:PoV C .sh F H (match gq ds with | some (t::ts)=>.ok (.tup ((Vi t ts).map D.int)) | _=>.bad) Q:=po
  match e:gq ds with
  | none=>rw [e] at po; exact po.elim
  | some []=>rw [e] at po; exact po.elim
  | some (t::ts)=>
   rw [e] at po
   have hds:=WG e
   have hn:its.length=ts.length+1:=by rw [<-rv.length,il.length,hds]; simp
   have hat:∀ i v,its[i]?=some v->∃ x,vs[i]?=some x/\RelV x v/\Is X.K F x (.tup (((t::ts).getD i []).map D.int)):=fun i v hv=>by
    have hi:i < its.length:=(aA.mp hv).1
    obtain ⟨x,ex,rx⟩:=Vals.getE rv hi
    obtain ⟨d,ed,idd⟩:=il.get ex
    rw [af hi] at hv
    cases hv
    refine ⟨x,ex,rx,?_⟩
    rw [hds,aG] at ed
    have hi2:i < (t::ts).length:=by rw [ap]; omega
    rw [af hi2] at ed
    cases ed
    rw [List.getD_eq_getElem?_getD,af hi2]
    exact idd
   refine qak (bt:=btZ (t::ts)) (I.ok.hd hc) pl (by rw [aq,hn]; omega) (fun i j vi vj h' tk Q' E' kp ei ej q=>?_) fun v h' tk ev kp=>?_
   ·obtain ⟨x1,_,r1,i1⟩:=hat i vi (by simpa using ei)
    obtain ⟨x2,_,r2,i2⟩:=hat j vj (by simpa using ej)
    have I1:Inv X pins σ H { s with heap:=h',toks:=tk }:=I.kept kp
    exact qeB I1 sb 7 (by show X.A.units+1+7 < cLine; omega) i1 i2 r1 r2 (Kb 6 _ _) _ _ _ _ q
   ·have I1:Inv X pins σ H { s with heap:=h',toks:=tk }:=I.kept kp
    obtain ⟨x1,_,r1,i1⟩:=hat _ v (by simpa using ev)
    rw [hn,Nat.add_sub_cancel,XH t ts _ (ax _),eV] at i1
    exact ⟨x1,H,I1,r1,po _ F H sb .refl (by rw [hK]; exact i1)⟩
 | _=>exact po.elim
end L2.D2
namespace L2.D2
open PySem PySem.Spec PyProof.Rows
open AutoSeq1 (wpAny_loadPart')
theorem XI (l:Addr) (items:Array Value) (n:Nat) (dct:Option Addr) (sl:Array (Option Value)) :
  Meets (Builtin.«enumerate.__new__» ⟨[.type "enumerate",.ref l],[]⟩) (fun _ R s=>s.heap.get? l=some { cls:=.type "tuple",dict:=dct,data:=.seq items n,slots:=sl } /\
   R (.ok (.ret (.ref (s.heap.push { cls:=.type "tuple_iterator",data:=.fields #[.ref l,.int 0 0] }).objs.size)))
    { s with heap:=(s.heap.push { cls:=.type "tuple_iterator",data:=.fields #[.ref l,.int 0 0] }).push { cls:=.type "enumerate",data:=.fields #[.none,.bool false,.ref s.heap.objs.size,rawInt 0,.none,.none] } }):=
 .of_wp fun prog w A R s h=>by
  obtain ⟨hp,g,d,tk,os⟩:=s; obtain ⟨hl,h⟩:=h
  have hsub:=sub_enumerate
  have hL:Heap.IsTuple (Shared.heap ⟨hp,g,d,tk,os⟩) l items:=⟨_,hl,rfl,n,rfl⟩
  wp_walk using wpAny_loadPart' hl
  refine wpAny_stack_any fun st=>wpAny_pure ?_
  split
  ·rename_i c _ _ _ _ _
   cases (c == fB "enumerate")
   ·wp_walk using wpAny_loadPart' hl,wpAny_pyIter_tuple hL
    exact ⟨_,rfl,h⟩
   ·wp_walk using wpAny_loadPart' hl,wpAny_pyIter_tuple hL
    exact ⟨_,rfl,h⟩
  ·wp_walk using wpAny_loadPart' hl,wpAny_pyIter_tuple hL
   exact ⟨_,rfl,h⟩
theorem uz {prog:Program} {w:World} {A:Around} {E:Value->Shared->Prop} {s:Shared} {l:Addr} {items:Array Value} {Q:Value->Shared->Prop} (hL:s.heap.IsTuple l items)
  (h:∀ h',IsEnum h' (s.heap.objs.size+1) s.heap.objs.size 0 .none->h'.IsTupleIter s.heap.objs.size l 0->h'.objs.size=s.heap.objs.size+2 ->
   (∀ b o,s.heap.get? b=some o->h'.get? b=some o)->Q (.ref (s.heap.objs.size+1)) { s with heap:=h' }) :
  wpAny (model prog w) A (call (.type "enumerate") [.ref l]) Q E s:=by
 obtain ⟨⟨c,dct,dt,sl⟩,hl,hc,n,hd⟩:=hL
 replace hc:c=.type "tuple":=hc
 replace hd:dt=.seq items n:=hd
 subst hc hd
 refine callType_new F.called_enumerate (by decide) (F.typeCall_enumerate_1 _) (F.newCall_enumerate_1 _) (fun obj=>F.args_object_init_2 obj _) F.entry_enumerate_new (XI l items n dct sl) ⟨hl,?_⟩
 have hz:(s.heap.push { cls:=.type "tuple_iterator",data:=.fields #[.ref l,.int 0 0] }).objs.size=s.heap.objs.size+1:=bP ..
 show _/\_
 rw [hz]
 have he:IsEnum ((s.heap.push { cls:=.type "tuple_iterator",data:=.fields #[.ref l,.int 0 0] }).push { cls:=.type "enumerate",data:=.fields #[.none,.bool false,.ref s.heap.objs.size,rawInt 0,.none,.none] }) (s.heap.objs.size+1) s.heap.objs.size 0 .none:=by
  have:=ao (s.heap.push { cls:=.type "tuple_iterator",data:=.fields #[.ref l,.int 0 0] }) (o:={ cls:=.type "enumerate",data:=.fields #[.none,.bool false,.ref s.heap.objs.size,rawInt 0,.none,.none] }) rfl
  rw [hz] at this; exact this
 exact ⟨⟨_,he,rfl⟩,h _ he ⟨_,ae _ (ao _ rfl),rfl,rfl⟩ (by rw [bP,hz]) fun b o x=>ae _ (ae _ x)⟩
noncomputable def qfE (K:Frag) (a:Addr) (xs:List V):It:=
 ⟨fun i H=>i < xs.length/\SqT K H a xs,fun i H v H'=>∃ x p,xs[i]?=some x/\H p=none/\v=.ref p/\H'=upd H p (.tup [.int (i:Nat),x]),fun i H=>xs.length<=i/\SqT K H a xs⟩
theorem UV {P:Program} {w:World} {K:Frag} {elts:List Expr} {x1} {pos:Pos} (b a:Nat) (xs:List V) (h1:a < b) :
  Turn P w K (.Tuple elts x1 pos) (qfE K a xs) [b+1,b] (b+1) (fun i h=>(∃ old,IsEnum h (b+1) b i old)/\h.IsTupleIter b a i/\i<=xs.length) where
 mem:=by simp
 obj:=fun i h st c hc=>by
  obtain ⟨⟨old,he⟩,⟨o,ho,hcl,hd⟩,hle⟩:=st
  simp only [ac,aJ,or_false] at hc
  rcases hc with rfl | rfl
  ·exact ⟨_,he,fun v z=>by cases z⟩
  ·exact ⟨o,ho,fun v z=>by rw [hd] at z; cases z⟩
 keep:=fun i h h' st k=>by
  obtain ⟨⟨old,he⟩,⟨o,ho,hcl,hd⟩,hle⟩:=st
  exact ⟨⟨old,k _ (by simp) _ he⟩,⟨o,k _ (by simp) _ ho,hcl,hd⟩,hle⟩
 item:=by
  intro X hP hw hK hc i pins s σ H E I hf st hg
  subst hP hw hK
  obtain ⟨⟨old,he⟩,hit,hle⟩:=st
  obtain ⟨hl,q⟩:=hg
  obtain ⟨its,r,pl,_⟩:=I.tuple q
  have hi:i < its.length:=by rw [<-r.length]; exact hl
  have hx:its.toArray[i]?=some its[i]:=by simp [hi]
  have hne:a≠b:=aE h1
  refine wpAny_pyNext_enum_itemD (zw (A:=X.A.in1) (I.ok.hd hc) b a hne its.toArray) he ⟨hit,pl⟩ (by simpa using hi) (dR b) (by
   intro z
   simp only [ac,aJ,or_false] at z
   have h1:@LT.lt Nat _ a b:=h1
   rcases z with z | z
   ·have z:@Eq Nat _ _:=z
    omega
   ·have z:@Eq Nat _ _:=z
    omega) fun x1 h' tk hx1 eo it' tp hz kp=>?_
  have ex1:x1=its[i]:=by
   have hx1:its.toArray[i]?=some x1:=hx1
   rw [hx] at hx1
   exact (aT.inj hx1).symm
  subst ex1
  refine ⟨_,rfl,wpAny_letOwnedTupleGo_enum eo fun hq e2 sb2=>?_⟩
  obtain ⟨x,ex,rx⟩:=JU r (af hi)
  have hT:H s.heap.objs.size=none:=I.hok.fresh (ax _)
  have lt1:b+1 < s.heap.objs.size:=ay he
  have fT:∀ c∈[b+1,b],c≠s.heap.objs.size:=fun c hc=>by
   simp only [ac,aJ,or_false] at hc
   have lt':b+1 < s.heap.objs.size:=lt1
   generalize s.heap.objs.size=m at lt'
   intro z
   omega
  have I1:Inv X pins σ (upd H s.heap.objs.size (.tup [.int (i:Nat),x])) { s with heap:=s.heap.push { cls:=.type "tuple",data:=.seq #[.int i tk,its[i]] } }:=
   I.laid (t':=s.toks) (fun _ _ e=>ae _ e) (ax _) ⟨⟨by simp only [ap,ba]; rw [sizeLine_eq]; decide,_,ao _ rfl,rfl⟩,[.int i tk,its[i]],.cons ⟨_,rfl⟩ (.cons rx .nil),⟨_,ao _ rfl,rfl,_,rfl⟩⟩
  have I2:Inv X pins σ (upd H s.heap.objs.size (.tup [.int (i:Nat),x])) { s with heap:=hq,toks:=tk+1 }:=by
   refine Qf (s:={ s with heap:=s.heap.push { cls:=.type "tuple",data:=.seq #[.int i tk,its[i]] } }) (ch:=[b+1,b]) I1 (fun c o nc e=>?_) fun c hc=>⟨by rw [qx (fT c hc)]; exact (hf c hc).1,(hf c hc).2⟩
   simp only [ac,aJ,or_false,not_or] at nc
   rw [sb2.2 c nc.1]
   by_cases ec:c=s.heap.objs.size
   ·subst ec
    have e3:(s.heap.push ({ cls:=.type "tuple",data:=.seq #[.int i tk,its[i]] }:Obj)).get? s.heap.objs.size=some { cls:=.type "tuple",data:=.seq #[.int i tk,its[i]] }:=ao _ rfl
    rw [show (s.heap.push ({ cls:=.type "tuple",data:=.seq #[.int i tk,its[i]] }:Obj)).get? s.heap.objs.size=some o from e] at e3
    rw [e3]
    exact tp
   ·have e4:s.heap.get? c=some o:=by
     have:=e
     rwa [show (s.heap.push ({ cls:=.type "tuple",data:=.seq #[.int i tk,its[i]] }:Obj)).get? c=s.heap.get? c from Heap.get?_push_ne _ _ _ ec] at this
    exact kp c o nc.1 nc.2 e4
  refine ⟨.ref s.heap.objs.size,_,I2,rfl,⟨x,_,ex,hT,rfl,rfl⟩,⟨⟨_,by simpa using e2⟩,?_,hl⟩,fun c hc=>by rw [qx (fT c hc)]; exact (hf c hc).1⟩
  obtain ⟨o,ho,hcl,hd⟩:=it'.1
  exact ⟨o,(sb2.2 _ (dR b).symm).trans ho,hcl,hd⟩
 done:=by
  intro X hP hw hK hc i pins s σ H E I hf st hg
  subst hP hw hK
  obtain ⟨⟨old,he⟩,hit,hle⟩:=st
  obtain ⟨hl,q⟩:=hg
  obtain ⟨its,r,pl,_⟩:=I.tuple q
  have hin:i=its.toArray.size:=by
   rw [aq,<-r.length]
   exact d4 hle hl
  subst hin
  refine wpAny_pyNext_enum_endD (zw (A:=X.A.in1) (I.ok.hd hc) b a (aE h1) its.toArray) he ⟨hit,pl⟩ fun h' ex=>⟨rfl,Qf (t':=s.toks) (ch:=[b+1,b]) I (fun c o nc e=>?_) hf⟩
  simp only [ac,aJ,or_false,not_or] at nc
  exact ex c o nc.2 e
 self:=fun _ _ _ _ _ st h=>wpAny_pyIter_enum st.1.choose_spec h
noncomputable def XJ (f:Sl->Out (D×Sl)):Sl->Out (List D×Sl):=fun ρ=>(f ρ).bind fun p=>match p.1 with
 | .tup xs=>.ok (uN xs,p.2)
 | _=>.bad
theorem qcI {K:Frag} {F:Hp} {a:Addr} {xs:List V} {ds:List D} (p:SqT K F a xs) (t:IsL K F xs ds):ItIs K F (qfE K a xs) (uN ds) where
 go:=fun i H hi s=>by
  unfold uN at hi
  rw [au,dn] at hi
  exact ⟨by rw [t.length]; exact hi,qD s p⟩
 yld:=fun i Fi H v H' d e s1 s2 y=>by
  obtain ⟨x,q,hx,hn,rfl,rfl⟩:=y
  obtain ⟨d1,e1,i1⟩:=t.get hx
  have ed:d=.tup [.int (i:Nat),d1]:=by
   unfold uN at e
   rw [aG,List.getElem?_zipIdx,e1] at e
   simpa using e.symm
  subst ed
  obtain ⟨g1,g2⟩:=yQ (u:=.tup [.int (i:Nat),x]) s2 hn
  exact ⟨_,g2,g1,.tup (.of qo) (.cons (.int _) (.cons ((i1.mono s1).mono g2.grow) .nil))⟩
 stop:=fun i H hi s=>by
  unfold uN at hi
  rw [au,dn] at hi
  exact ⟨by rw [t.length]; exact hi,qD s p⟩
section
variable {X:Cx} {C:Ct} {own:List Nat} {a:Expr} {fa:Sl->Out (D×Sl)} {ma:Mo} {pos:Pos}
theorem qam {ta:TA} {p tpos:Pos} {elts:List Expr} {x1} (hg:Gl X "enumerate") (hm:X.mg "enumerate"=none) (ha:PA X [a] ta) (hs:starEach [a] X.env=[(false,eval a X.env)]) :
  PI X (.Tuple elts x1 tpos) (.Call (.Name "enumerate" p) [a] [] pos) (fun σ H R=>ta σ H fun vs H1=>∃ a1 xs,vs=[.ref a1]/\SqT X.K H1 a1 xs/\R (qfE X.K a1 xs) H1):=by
 refine ⟨?_⟩
 intro pins s σ H R I h
 refine Call_ (uX I hg hm JZ (bh (thn (ha pos pins s σ H _ I h) fun us s1 ⟨vs,H1,I1,r1,q1⟩=>?_) hs rfl))
 obtain ⟨a1,xs,rfl,w1,q⟩:=q1
 obtain ⟨u1,rfl,e1⟩:=uG r1
 cases e1
 obtain ⟨its,v1,pl,_⟩:=I1.tuple w1
 have hlt:a1 < s1.heap.objs.size:=pl.lt
 refine uz pl fun h' he hit hz kp=>?_
 refine wpAny_pyIter_enum he ?_
 refine ⟨s1.heap.objs.size+1,_,_,qfE X.K a1 xs,H1,rfl,I1.kept (t':=s1.toks) kp,UV s1.heap.objs.size a1 xs hlt,⟨⟨_,he⟩,hit,bB _⟩,fun b hb=>?_,q⟩
 have hle:s1.heap.objs.size<=b:=by
  simp only [ac,aJ,or_false] at hb
  rcases hb with rfl | rfl
  ·exact c8 _ _
  ·exact ax _
 exact I1.fpOk hle (I1.hok.fresh hle)
theorem XM {p tpos:Pos} {elts:List Expr} {x1} (hK:C.K=X.K) (hg:Gl X "enumerate") (hm:X.mg "enumerate"=none) (ha:PE X a (tE C own ma fa)) (h1:ma≠.any:=by decide) (hs:starEach [a] X.env=[(false,eval a X.env)]:=by exact qR rfl) :
  PI X (.Tuple elts x1 tpos) (.Call (.Name "enumerate" p) [a] [] pos) (tIt C own (XJ fa)):=by
 refine YW (qam hg hm (qV (ux ha h1) jM hs) hs) fun σ H R ⟨F,ρ,rp,h⟩=>⟨F,ρ,rp,PoI.bindV h fun v F1 H1 d ρ1 rp1 c1 mo1 h1=>?_⟩
 have mo1:Is C.K F1 v d:=mo1
 cases mo1 with
 | tup p t=>exact ⟨_,_,rfl,by rw [<-hK]; exact qD rp1.sub p,by rw [<-hK]; exact h1 _ F1 H1 rp1 c1 (qcI p t)⟩
 | _=>exact h1.elim
end
end L2.D2
namespace L2.D2
open PySem PySem.Spec PyProof.Rows
end L2.D2
namespace L2.D2
open PySem PySem.Spec PyProof.Rows PySem.W
theorem yt:∀ l:List Int,zC (l.map D.int)=some l
 | []=>rfl
 | x::l=>by
  show (zC (l.map D.int)).map (x::·)=some (x::l)
  rw [yt l]
  rfl
end L2.D2
namespace L2.D2
open PySem PySem.Spec PyProof.Rows
end L2.D2
set_option maxHeartbeats 4000000
namespace Kx
open PySem PySem.Spec PyProof.Rows L2 L2.D2
noncomputable def top (i:Nat):Stmt:=PySem.Challenge.pw_lookwords_k32_whole_apart.main.body.getD i (.Pass ⟨0,0,0,0⟩)
noncomputable def CS:List Str:=["NoWords", "NoLook", "NoNumbers", "NoRoom"]
noncomputable def FS:List Str:=[]
structure Zt (K:Frag) (mg:Str->Option Value) (cv:Str->Value) (ca:Str->Addr):Prop where
 xs:Xs K cv ca CS "WordError"
 mref:∀ c∈CS,mg c=some (.ref (ca c))
 xin:∀ c∈CS,df K (ca c) bmV "ValueError.__new__"=true
 fref:∀ x∈FS,mg x=some (.ref (ca x))
 z_all:mg "all"=none
 z_bool:mg "bool"=none
 z_enumerate:mg "enumerate"=none
 z_int:mg "int"=none
 z_isinstance:mg "isinstance"=none
 z_len:mg "len"=none
 z_list:mg "list"=none
 z_max:mg "max"=none
 z_min:mg "min"=none
 z_range:mg "range"=none
 z_reversed:mg "reversed"=none
 z_set:mg "set"=none
 z_sorted:mg "sorted"=none
 z_str:mg "str"=none
 z_tuple:mg "tuple"=none
 c_LEAST_PLACE:∃ t,mg "LEAST_PLACE"=some (.int (-3) t)
 c_MOST_LETTERS:∃ t,mg "MOST_LETTERS"=some (.int 6 t)
 c_MOST_PLACE:∃ t,mg "MOST_PLACE"=some (.int 2 t)
 c_MOST_ROOM:∃ t,mg "MOST_ROOM"=some (.int 99 t)
 c_MOST_WORDS:∃ t,mg "MOST_WORDS"=some (.int 6 t)
theorem WH:bootBuiltins "all"=some (.builtin "all"):=by decide +kernel
theorem qcJ:bootBuiltins "bool"=some (.type "bool"):=by decide +kernel
theorem qeC:bootBuiltins "int"=some (.type "int"):=by decide +kernel
theorem jq:bootBuiltins "isinstance"=some (.builtin "isinstance"):=by decide +kernel
theorem jy:bootBuiltins "len"=some (.builtin "len"):=by decide +kernel
theorem Vj:bootBuiltins "list"=some (.type "list"):=by decide +kernel
theorem qeD:bootBuiltins "max"=some (.builtin "max"):=by decide +kernel
theorem qba:bootBuiltins "min"=some (.builtin "min"):=by decide +kernel
theorem qan:bootBuiltins "range"=some (.type "range"):=by decide +kernel
theorem Vk:bootBuiltins "reversed"=some (.type "reversed"):=by decide +kernel
theorem qbb:bootBuiltins "set"=some (.type "set"):=by decide +kernel
theorem Kc:bootBuiltins "sorted"=some (.builtin "sorted"):=by decide +kernel
theorem qbc:bootBuiltins "str"=some (.type "str"):=by decide +kernel
theorem wa:bootBuiltins "tuple"=some (.type "tuple"):=by decide +kernel
instance {α:Type}:Inhabited (Out α):=⟨.bad⟩
section
variable {P:Program} {w:World} {K:Frag} {mg:Str->Option Value} {base:Heap} {cv:Str->Value} {ca:Str->Addr}
abbrev wb:Stmt:=top 13
abbrev zE:List Str:=["thing"]
theorem Kd:FnScope zE ["thing"] (qf wb):=⟨rfl,rfl,rfl,by decide +kernel,rfl,by decide +kernel,by decide +kernel⟩
noncomputable def kR:Sl->Out (Fl×Sl):=(jZ (KR (d1 (gk "str") (qe 0)) (KR (d2 eqD (d1 jF (qe 0)) (dC (.int 1))) (yf leD leD (dC (.str "a")) (qe 0) (dC (.str "z"))))))
noncomputable abbrev wc:List D->Out (D×List D):=kB zE [.val] (kR)
abbrev xz P w K mg base cv:=DefOk P w K mg base cv 1 "is_letter" ["thing"] [.val] .sh (wc)
theorem Ke (Z:Zt K mg cv ca) (T:jm K mg "is_letter" wb ["thing"]):xz P w K mg base cv:=
 qN (k:=0) (own':=[]) (fb:=kR) T Kd fun cdv f A outer s H E hr=>(qm (qp (Wh (zq rfl rfl Z.z_isinstance jq rfl Z.z_str qbc (vr 0)) (Wh (yd (yO rfl hr.units) (qG (jB rfl) rfl Z.z_len jy (vr 0)) qr) (YN (Wj Jz Jz wu (vr 0) wu))))))
abbrev vN:Stmt:=top 14
abbrev zF:List Str:=["thing"]
theorem UW:FnScope zF ["thing"] (qf vN):=⟨rfl,rfl,rfl,by decide +kernel,rfl,by decide +kernel,by decide +kernel⟩
noncomputable def zG:Sl->Out (Fl×Sl):=(ji (sIf (dOr (KQ (zl (d1 (gk "str") (qe 0)))) (KQ (je (yf leD leD (dC (.int 1)) (d1 jF (qe 0)) (dC (.int 6)))))) (jZ (dC (.bl false))) ka)
  (jZ (d1 GN (ju [] 1 [] (km (qe 0)) (gNm 0) ftT (qt [.vl] wc (qd (qe 0) qH))))))
noncomputable abbrev yu:List D->Out (D×List D):=kB zF [.val] (zG)
abbrev gI P w K mg base cv:=DefOk P w K mg base cv 2 "is_word" ["thing"] [.val] .sh (yu)
theorem UX (Z:Zt K mg cv ca) (T:jm K mg "is_word" vN ["thing"]) (ok_is_letter:xz P w K mg base cv):gI P w K mg base cv:=
 qN (k:=1) (own':=[]) (fb:=zG) T UW fun cdv f A outer s H E hr=>(qh (jK (PW.pt (Jx (kw (jI rfl (zq rfl rfl Z.z_isinstance jq rfl Z.z_str qbc (vr 0)) (fun _=>rfl))) (uJ (kw (Jy Jz Jz qr (qG (jB rfl) rfl Z.z_len jy (vr 0)) (yn Z.c_MOST_LETTERS rfl)))))) (qm (qp Jt)) jj)
  (qm (qp (qG (Wt rfl rfl) rfl Z.z_all WH (jC (N:=["sign"]) (nt:=1) (cap:=[]) rfl (vf (names:=(qf vN).names) rfl (by decide +kernel)) (jG (names:=(qf vN).names) (N:=zF) rfl rfl (by decide +kernel)) (qW rfl (vr 0)) (fun fp L s1 H1=>(qu (i:=0) (show aR (["sign"]:List Str) from by decide +kernel) rfl (aB rfl))) (fun fp L s1 H1=>jg) (fun fp L s1 H1=>(ql ok_is_letter hr (by decide) xH rfl (qc (vr 0) qg))))))))
abbrev kM:Stmt:=top 15
abbrev yY:List Str:=["thing"]
theorem Vl:FnScope yY ["thing"] (qf kM):=⟨rfl,rfl,rfl,by decide +kernel,rfl,by decide +kernel,by decide +kernel⟩
noncomputable def yZ:Sl->Out (Fl×Sl):=(ji (sIf (dOr (KQ (zl (d1 (gk "tuple") (qe 0)))) (KQ (je (yf leD leD (dC (.int 1)) (d1 jF (qe 0)) (dC (.int 6)))))) (jZ (dC (.bl false))) ka)
  (jZ (KR (d1 GN (ju [] 1 [] (km (qe 0)) (gNm 0) ftT (qt [.vl] yu (qd (qe 0) qH)))) (d2 eqD (d1 Qh (qe 0)) (d1 jF (qe 0))))))
noncomputable abbrev xa:List D->Out (D×List D):=kB yY [.val] (yZ)
abbrev zH P w K mg base cv:=DefOk P w K mg base cv 3 "is_words" ["thing"] [.val] .sh (xa)
theorem Vm (Z:Zt K mg cv ca) (T:jm K mg "is_words" kM ["thing"]) (ok_is_word:gI P w K mg base cv):zH P w K mg base cv:=
 qN (k:=2) (own':=[]) (fb:=yZ) T Vl fun cdv f A outer s H E hr=>(qh (jK (PW.pt (Jx (kw (jI rfl (zq rfl rfl Z.z_isinstance jq rfl Z.z_tuple wa (vr 0)) (fun _=>rfl))) (uJ (kw (Jy Jz Jz qr (qG (jB rfl) rfl Z.z_len jy (vr 0)) (yn Z.c_MOST_WORDS rfl)))))) (qm (qp Jt)) jj)
  (qm (qp (Wh (qG (Wt rfl rfl) rfl Z.z_all WH (jC (N:=["part"]) (nt:=1) (cap:=[]) rfl (vf (names:=(qf kM).names) rfl (by decide +kernel)) (jG (names:=(qf kM).names) (N:=yY) rfl rfl (by decide +kernel)) (qW rfl (vr 0)) (fun fp L s1 H1=>(qu (i:=0) (show aR (["part"]:List Str) from by decide +kernel) rfl (aB rfl))) (fun fp L s1 H1=>jg) (fun fp L s1 H1=>(ql ok_is_word hr (by decide) xH rfl (qc (vr 0) qg))))) (YN (yd (yO rfl hr.units) (Xu rfl rfl rfl Z.z_len jy rfl Z.z_set qbb (vr 0)) (qG (jB rfl) rfl Z.z_len jy (vr 0))))))))
abbrev kE:Stmt:=top 18
abbrev yv:List Str:=["thing"]
theorem gt:FnScope yv ["thing"] (qf kE):=⟨rfl,rfl,rfl,by decide +kernel,rfl,by decide +kernel,by decide +kernel⟩
noncomputable def we:Sl->Out (Fl×Sl):=(sIf (KQ (zl (qt [.vl] xa (qd (qe 0) qH)))) (yT "NoWords" (qd (dC (.str "words are a tuple of 1 to 6 unlike words of 1 to 6 letters from a to z")) qH)) ka)
noncomputable abbrev wf:List D->Out (D×List D):=kB yv [.val] (we)
abbrev uB P w K mg base cv:=DefOk P w K mg base cv 4 "check_words" ["thing"] [.val] .sh (wf)
theorem gu (Z:Zt K mg cv ca) (T:jm K mg "check_words" kE ["thing"]) (ok_is_words:zH P w K mg base cv):uB P w K mg base cv:=
 qN (k:=3) (own':=[]) (fb:=we) T gt fun cdv f A outer s H E hr=>(qm (jK (kw (jI rfl (ql ok_is_words hr (by decide) qO rfl (qc (vr 0) qg)) (fun _=>rfl))) (qm (yl rfl (Wx rfl) rfl rfl (Z.mref "NoWords" (by decide +kernel)) (Z.xs.val "NoWords" (by decide +kernel)) (Z.xin "NoWords" (by decide +kernel)) (qc wu qg))) jj))
abbrev vm:Stmt:=top 12
abbrev xA:List Str:=["thing", "least", "most"]
theorem Qm:FnScope xA ["thing", "least", "most"] (qf vm):=⟨rfl,rfl,rfl,by decide +kernel,rfl,by decide +kernel,by decide +kernel⟩
noncomputable def vn:Sl->Out (Fl×Sl):=(ji (sIf (dOr (KQ (zl (d1 (gk "int") (qe 0)))) (zl (d1 (gk "bool") (qe 0)))) (jZ (dC (.bl false))) ka)
  (jZ (yf leD leD (qe 1) (qe 0) (qe 2))))
noncomputable abbrev jD:List D->Out (D×List D):=kB xA [.val,.val,.val] (vn)
abbrev kG P w K mg base cv:=DefOk P w K mg base cv 1 "is_between" ["thing", "least", "most"] [.val,.val,.val] .sh (jD)
theorem Qn (Z:Zt K mg cv ca) (T:jm K mg "is_between" vm ["thing", "least", "most"]):kG P w K mg base cv:=
 qN (k:=0) (own':=[]) (fb:=vn) T Qm fun cdv f A outer s H E hr=>(qh (jK (PW.pt (Jx (kw (jI rfl (zq rfl rfl Z.z_isinstance jq rfl Z.z_int qeC (vr 0)) (fun _=>rfl))) (uJ (jI rfl (zq rfl rfl Z.z_isinstance jq rfl Z.z_bool qcJ (vr 0)) (fun _=>rfl))))) (qm (qp Jt)) jj)
  (qm (qp (Wj Jz Jz (vr 1) (vr 0) (vr 2)))))
abbrev vP:Stmt:=top 16
abbrev zI:List Str:=["thing"]
theorem UY:FnScope zI ["thing"] (qf vP):=⟨rfl,rfl,rfl,by decide +kernel,rfl,by decide +kernel,by decide +kernel⟩
noncomputable def zJ:Sl->Out (Fl×Sl):=(ji (sIf (dOr (KQ (zl (d1 (gk "tuple") (qe 0)))) (je (d2 neD (d1 jF (qe 0)) (dC (.int 2))))) (jZ (dC (.bl false))) ka)
  (jZ (d1 GN (ju [] 1 [] (km (qe 0)) (gNm 0) ftT (qt [.vl,.vl,.vl] jD (qd (qe 0) (qd (dC (.int (-3))) (qd (dC (.int 2)) qH))))))))
noncomputable abbrev zK:List D->Out (D×List D):=kB zI [.val] (zJ)
abbrev gJ P w K mg base cv:=DefOk P w K mg base cv 2 "is_look" ["thing"] [.val] .sh (zK)
theorem UZ (Z:Zt K mg cv ca) (T:jm K mg "is_look" vP ["thing"]) (ok_is_between:kG P w K mg base cv):gJ P w K mg base cv:=
 qN (k:=1) (own':=[]) (fb:=zJ) T UY fun cdv f A outer s H E hr=>(qh (jK (PW.pt (Jx (kw (jI rfl (zq rfl rfl Z.z_isinstance jq rfl Z.z_tuple wa (vr 0)) (fun _=>rfl))) (uJ (ja (YI rfl hr.units) (qG (jB rfl) rfl Z.z_len jy (vr 0)) qr)))) (qm (qp Jt)) jj)
  (qm (qp (qG (Wt rfl rfl) rfl Z.z_all WH (jC (N:=["place"]) (nt:=1) (cap:=[]) rfl (vf (names:=(qf vP).names) rfl (by decide +kernel)) (jG (names:=(qf vP).names) (N:=zI) rfl rfl (by decide +kernel)) (qW rfl (vr 0)) (fun fp L s1 H1=>(qu (i:=0) (show aR (["place"]:List Str) from by decide +kernel) rfl (aB rfl))) (fun fp L s1 H1=>jg) (fun fp L s1 H1=>(ql ok_is_between hr (by decide) xH rfl (qc (vr 0) (qc (yn Z.c_LEAST_PLACE rfl) (qc (yn Z.c_MOST_PLACE rfl) qg))))))))))
abbrev vo:Stmt:=top 19
abbrev xB:List Str:=["thing"]
theorem Qo:FnScope xB ["thing"] (qf vo):=⟨rfl,rfl,rfl,by decide +kernel,rfl,by decide +kernel,by decide +kernel⟩
noncomputable def wI:Sl->Out (Fl×Sl):=(sIf (KQ (zl (qt [.vl] zK (qd (qe 0) qH)))) (yT "NoLook" (qd (dC (.str "a look is a tuple of two places from -3 to 2")) qH)) ka)
noncomputable abbrev wJ:List D->Out (D×List D):=kB xB [.val] (wI)
abbrev yw P w K mg base cv:=DefOk P w K mg base cv 3 "check_look" ["thing"] [.val] .sh (wJ)
theorem Qp (Z:Zt K mg cv ca) (T:jm K mg "check_look" vo ["thing"]) (ok_is_look:gJ P w K mg base cv):yw P w K mg base cv:=
 qN (k:=2) (own':=[]) (fb:=wI) T Qo fun cdv f A outer s H E hr=>(qm (jK (kw (jI rfl (ql ok_is_look hr (by decide) qO rfl (qc (vr 0) qg)) (fun _=>rfl))) (qm (yl rfl (Wx rfl) rfl rfl (Z.mref "NoLook" (by decide +kernel)) (Z.xs.val "NoLook" (by decide +kernel)) (Z.xin "NoLook" (by decide +kernel)) (qc wu qg))) jj))
abbrev wg:Stmt:=top 23
abbrev zL:List Str:=["word", "place", "at"]
theorem sc_letter_at:FnScope zL ["word", "place"] (qf wg):=⟨rfl,rfl,rfl,by decide +kernel,rfl,by decide +kernel,by decide +kernel⟩
noncomputable def wj:Sl->Out (Fl×Sl):=(ji (kb 2 (dIf (je (d2 geD (qe 1) (dC (.int 0)))) (qe 1) (d2 jJ (d1 jF (qe 0)) (qe 1))))
  (jZ (d2 ixD (qe 0) (d2 qfq (dC (.int 0)) (d2 qfr (qe 2) (d2 UA (d1 jF (qe 0)) (dC (.int 1))))))))
noncomputable abbrev kS:List D->Out (D×List D):=kB zL [.val,.val] (wj)
abbrev xC P w K mg base cv:=DefOk P w K mg base cv 1 "letter_at" ["word", "place"] [.val,.val] .sh (kS)
theorem Kf (Z:Zt K mg cv ca) (T:jm K mg "letter_at" wg ["word", "place"]):xC P w K mg base cv:=
 qN (k:=0) (own':=[]) (fb:=wj) T sc_letter_at fun cdv f A outer s H E hr=>(qh (qP (i:=2) sc_letter_at.nd rfl (aB rfl) (YO (ja qge (vr 1) qr) (vr 1) (qS (jk rfl) (qG (jB rfl) rfl Z.z_len jy (vr 0)) (vr 1))))
  (qm (qp (jS rfl hr.units (vr 0) (JI (qel rfl) rfl Z.z_max qeD qr (JI (qem rfl) rfl Z.z_min qba (vr 2) (qS Jv (qG (jB rfl) rfl Z.z_len jy (vr 0)) qr))) (fun _ _=>rfl)))))
abbrev xb:Stmt:=top 24
abbrev Vn:List Str:=["words", "look"]
theorem qao:FnScope Vn ["words", "look"] (qf xb):=⟨rfl,rfl,rfl,by decide +kernel,rfl,by decide +kernel,by decide +kernel⟩
noncomputable def Vo:Sl->Out (Fl×Sl):=(ji (wC (qt [.vl] wf (qd (qe 0) qH)))
  (ji (wC (qt [.vl] wJ (qd (qe 1) qH)))
  (jZ (ju [] 1 [1] (km (qe 0)) (gNm 0) ftT (zm (qd (qt [.vl,.vl] kS (qd (qe 0) (qd (d2 ixD (qe 1) (dC (.int 0))) qH))) (qd (qt [.vl,.vl] kS (qd (qe 0) (qd (d2 ixD (qe 1) (dC (.int 1))) qH))) qH)))))))
noncomputable abbrev xc:List D->Out (D×List D):=kB Vn [.val,.val] (Vo)
abbrev Qq P w K mg base cv:=DefOk P w K mg base cv 5 "pairs" ["words", "look"] [.val,.val] .sh (xc)
theorem qap (Z:Zt K mg cv ca) (T:jm K mg "pairs" xb ["words", "look"]) (ok_check_words:uB P w K mg base cv) (ok_check_look:yw P w K mg base cv) (ok_letter_at:xC P w K mg base cv):Qq P w K mg base cv:=
 qN (k:=4) (own':=[]) (fb:=Vo) T qao fun cdv f A outer s H E hr=>(qh (kl (ql ok_check_words hr (by decide) qO rfl (qc (vr 0) qg)))
  (qh (kl (ql ok_check_look hr (by decide) qO rfl (qc (vr 1) qg)))
  (qm (qp (jC (N:=["word", "look"]) (nt:=1) (cap:=[1]) rfl (vf (names:=(qf xb).names) rfl (by decide +kernel)) (jG (names:=(qf xb).names) (N:=Vn) rfl rfl (by decide +kernel)) (qW rfl (vr 0)) (fun fp L s1 H1=>(qu (i:=0) (show aR (["word", "look"]:List Str) from by decide +kernel) rfl (aB rfl))) (fun fp L s1 H1=>jg) (fun fp L s1 H1=>(wE (qc (ql ok_letter_at hr (by decide) xH rfl (qc (vr 0) (qc (jS rfl hr.units (vr 1) qr (fun _ _=>rfl)) qg))) (qc (ql ok_letter_at hr (by decide) xH rfl (qc (vr 0) (qc (jS rfl hr.units (vr 1) qr (fun _ _=>rfl)) qg))) qg)))))))))
abbrev vp:Stmt:=top 20
abbrev xD:List Str:=["thing"]
theorem Qr:FnScope xD ["thing"] (qf vp):=⟨rfl,rfl,rfl,by decide +kernel,rfl,by decide +kernel,by decide +kernel⟩
noncomputable def wK:Sl->Out (Fl×Sl):=(sIf (KQ (zl (qt [.vl,.vl,.vl] jD (qd (qe 0) (qd (dC (.int 1)) (qd (dC (.int 99)) qH)))))) (yT "NoRoom" (qd (dC (.str "a room is a whole number from 1 to 99")) qH)) ka)
noncomputable abbrev wL:List D->Out (D×List D):=kB xD [.val] (wK)
abbrev yx P w K mg base cv:=DefOk P w K mg base cv 2 "check_room" ["thing"] [.val] .sh (wL)
theorem Qs (Z:Zt K mg cv ca) (T:jm K mg "check_room" vp ["thing"]) (ok_is_between:kG P w K mg base cv):yx P w K mg base cv:=
 qN (k:=1) (own':=[]) (fb:=wK) T Qr fun cdv f A outer s H E hr=>(qm (jK (kw (jI rfl (ql ok_is_between hr (by decide) qO rfl (qc (vr 0) (qc qr (qc (yn Z.c_MOST_ROOM rfl) qg)))) (fun _=>rfl))) (qm (yl rfl (Wx rfl) rfl rfl (Z.mref "NoRoom" (by decide +kernel)) (Z.xs.val "NoRoom" (by decide +kernel)) (Z.xin "NoRoom" (by decide +kernel)) (qc wu qg))) jj))
abbrev jO:Stmt:=top 17
abbrev wM:List Str:=["thing", "count", "room"]
theorem Qt:FnScope wM ["thing", "count", "room"] (qf jO):=⟨rfl,rfl,rfl,by decide +kernel,rfl,by decide +kernel,by decide +kernel⟩
noncomputable def wN:Sl->Out (Fl×Sl):=(ji (sIf (dOr (KQ (zl (d1 (gk "tuple") (qe 0)))) (je (d2 neD (d1 jF (qe 0)) (qe 1)))) (jZ (dC (.bl false))) ka)
  (jZ (d1 GN (ju [] 1 [2] (km (qe 0)) (gNm 0) ftT (qt [.vl,.vl,.vl] jD (qd (qe 0) (qd (dC (.int 0)) (qd (d2 UA (qe 1) (dC (.int 1))) qH))))))))
noncomputable abbrev wO:List D->Out (D×List D):=kB wM [.val,.val,.val] (wN)
abbrev yy P w K mg base cv:=DefOk P w K mg base cv 2 "is_numbers" ["thing", "count", "room"] [.val,.val,.val] .sh (wO)
theorem Qu (Z:Zt K mg cv ca) (T:jm K mg "is_numbers" jO ["thing", "count", "room"]) (ok_is_between:kG P w K mg base cv):yy P w K mg base cv:=
 qN (k:=1) (own':=[]) (fb:=wN) T Qt fun cdv f A outer s H E hr=>(qh (jK (PW.pt (Jx (kw (jI rfl (zq rfl rfl Z.z_isinstance jq rfl Z.z_tuple wa (vr 0)) (fun _=>rfl))) (uJ (ja (YI rfl hr.units) (qG (jB rfl) rfl Z.z_len jy (vr 0)) (vr 1))))) (qm (qp Jt)) jj)
  (qm (qp (qG (Wt rfl rfl) rfl Z.z_all WH (jC (N:=["number", "room"]) (nt:=1) (cap:=[2]) rfl (vf (names:=(qf jO).names) rfl (by decide +kernel)) (jG (names:=(qf jO).names) (N:=wM) rfl rfl (by decide +kernel)) (qW rfl (vr 0)) (fun fp L s1 H1=>(qu (i:=0) (show aR (["number", "room"]:List Str) from by decide +kernel) rfl (aB rfl))) (fun fp L s1 H1=>jg) (fun fp L s1 H1=>(ql ok_is_between hr (by decide) xH rfl (qc (vr 0) (qc qr (qc (qS Jv (vr 1) qr) qg))))))))))
abbrev jU:Stmt:=top 21
abbrev wP:List Str:=["thing", "count", "room"]
theorem xJ:FnScope wP ["thing", "count", "room"] (qf jU):=⟨rfl,rfl,rfl,by decide +kernel,rfl,by decide +kernel,by decide +kernel⟩
noncomputable def kT:Sl->Out (Fl×Sl):=(sIf (KQ (zl (qt [.vl,.vl,.vl] wO (qd (qe 0) (qd (qe 1) (qd (qe 2) qH)))))) (yT "NoNumbers" (qd (dC (.str "numbers are a tuple of a number within the room for each word")) qH)) ka)
noncomputable abbrev kU:List D->Out (D×List D):=kB wP [.val,.val,.val] (kT)
abbrev ww P w K mg base cv:=DefOk P w K mg base cv 3 "check_numbers" ["thing", "count", "room"] [.val,.val,.val] .sh (kU)
theorem xK (Z:Zt K mg cv ca) (T:jm K mg "check_numbers" jU ["thing", "count", "room"]) (ok_is_numbers:yy P w K mg base cv):ww P w K mg base cv:=
 qN (k:=2) (own':=[]) (fb:=kT) T xJ fun cdv f A outer s H E hr=>(qm (jK (kw (jI rfl (ql ok_is_numbers hr (by decide) qO rfl (qc (vr 0) (qc (vr 1) (qc (vr 2) qg)))) (fun _=>rfl))) (qm (yl rfl (Wx rfl) rfl rfl (Z.mref "NoNumbers" (by decide +kernel)) (Z.xs.val "NoNumbers" (by decide +kernel)) (Z.xin "NoNumbers" (by decide +kernel)) (qc wu qg))) jj))
abbrev vt:Stmt:=top 27
abbrev xE:List Str:=["words", "look", "room", "numbers", "seen"]
theorem sc_told_pairs:FnScope xE ["words", "look", "room", "numbers"] (qf vt):=⟨rfl,rfl,rfl,by decide +kernel,rfl,by decide +kernel,by decide +kernel⟩
noncomputable def wQ:Sl->Out (Fl×Sl):=(ji (kb 4 (qt [.vl,.vl] xc (qd (qe 0) (qd (qe 1) qH))))
  (ji (wC (qt [.vl] wL (qd (qe 2) qH)))
  (ji (wC (qt [.vl,.vl,.vl] kU (qd (qe 3) (qd (d1 jF (qe 0)) (qd (qe 2) qH)))))
  (jZ (qe 4)))))
noncomputable abbrev kt:List D->Out (D×List D):=kB xE [.val,.val,.val,.val] (wQ)
abbrev kH P w K mg base cv:=DefOk P w K mg base cv 6 "told_pairs" ["words", "look", "room", "numbers"] [.val,.val,.val,.val] .sh (kt)
theorem Qv (Z:Zt K mg cv ca) (T:jm K mg "told_pairs" vt ["words", "look", "room", "numbers"]) (ok_check_room:yx P w K mg base cv) (ok_check_numbers:ww P w K mg base cv) (ok_pairs:Qq P w K mg base cv):kH P w K mg base cv:=
 qN (k:=5) (own':=[]) (fb:=wQ) T sc_told_pairs fun cdv f A outer s H E hr=>(qh (qP (i:=4) sc_told_pairs.nd rfl (aB rfl) (ql ok_pairs hr (by decide) qO rfl (qc (vr 0) (qc (vr 1) qg))))
  (qh (kl (ql ok_check_room hr (by decide) qO rfl (qc (vr 2) qg)))
  (qh (kl (ql ok_check_numbers hr (by decide) qO rfl (qc (vr 3) (qc (qG (jB rfl) rfl Z.z_len jy (vr 0)) (qc (vr 2) qg)))))
  (qm (qp (vr 4))))))
abbrev xV:Stmt:=top 30
abbrev WJ:List Str:=["walk"]
theorem XN:FnScope WJ ["walk"] (qf xV):=⟨rfl,rfl,rfl,by decide +kernel,rfl,by decide +kernel,by decide +kernel⟩
noncomputable def xW:Sl->Out (Fl×Sl):=(jZ (d2 eqD (d2 gj (d1 jF (qe 0)) (dC (.int 2))) (dC (.int 1))))
noncomputable abbrev wk:List D->Out (D×List D):=kB WJ [.val] (xW)
abbrev yz P w K mg base cv:=DefOk P w K mg base cv 1 "is_odd" ["walk"] [.val] .sh (wk)
theorem XO (Z:Zt K mg cv ca) (T:jm K mg "is_odd" xV ["walk"]):yz P w K mg base cv:=
 qN (k:=0) (own':=[]) (fb:=xW) T XN fun cdv f A outer s H E hr=>(qm (qp (yd (yO rfl hr.units) (qS wv (qG (jB rfl) rfl Z.z_len jy (vr 0)) qr) qr)))
abbrev uh:Stmt:=top 29
abbrev xf:List Str:=["walk", "numbers", "start", "total", "at"]
theorem sc_comes_to:FnScope xf ["walk", "numbers", "start"] (qf uh):=⟨rfl,rfl,rfl,by decide +kernel,rfl,by decide +kernel,by decide +kernel⟩
noncomputable def xg:Sl->Out (Fl×Sl):=(ji (kb 3 (qe 2))
  (ji (KU (km (qe 0)) (gNm 4)
  (kb 3 (d2 UA (d2 ixD (qe 1) (qe 4)) (qe 3))))
  (jZ (qe 3))))
noncomputable abbrev ui:List D->Out (D×List D):=kB xf [.val,.val,.val] (xg)
abbrev uO P w K mg base cv:=DefOk P w K mg base cv 1 "comes_to" ["walk", "numbers", "start"] [.val,.val,.val] .sh (ui)
theorem Vp (Z:Zt K mg cv ca) (T:jm K mg "comes_to" uh ["walk", "numbers", "start"]):uO P w K mg base cv:=
 qN (k:=0) (own':=[]) (fb:=xg) T sc_comes_to fun cdv f A outer s H E hr=>(qh (qP (i:=3) sc_comes_to.nd rfl (aB rfl) (vr 2))
  (qh (vE aX rfl (qW rfl (vr 0)) (qu (i:=4) sc_comes_to.nd rfl (aB rfl))
  (qm (qP (i:=3) sc_comes_to.nd rfl (aB rfl) (qS Jv (jS rfl hr.units (vr 1) (vr 4) (fun _ _=>rfl)) (vr 3)))))
  (qm (qp (vr 3)))))
abbrev WK:Stmt:=top 31
abbrev qbd:List Str:=["walk", "room", "numbers", "total"]
theorem sc_bars:FnScope qbd ["walk", "room", "numbers"] (qf WK):=⟨rfl,rfl,rfl,by decide +kernel,rfl,by decide +kernel,by decide +kernel⟩
noncomputable def WL:Sl->Out (Fl×Sl):=(ji (kb 3 (qt [.vl,.vl,.vl] ui (qd (qe 0) (qd (qe 2) (qd (dC (.int 0)) qH)))))
  (ji (sIf (zl (qt [.vl] wk (qd (qe 0) qH))) (jZ (KR (d2 eqD (d2 gj (qe 1) (dC (.int 2))) (dC (.int 0))) (d2 eqD (d2 gj (qe 3) (dC (.int 2))) (dC (.int 1))))) ka)
  (jZ (d2 neD (d2 gj (qe 3) (qe 1)) (dC (.int 0))))))
noncomputable abbrev WM:List D->Out (D×List D):=kB qbd [.val,.val,.val] (WL)
abbrev XQ P w K mg base cv:=DefOk P w K mg base cv 2 "bars" ["walk", "room", "numbers"] [.val,.val,.val] .sh (WM)
theorem qcK (Z:Zt K mg cv ca) (T:jm K mg "bars" WK ["walk", "room", "numbers"]) (ok_comes_to:uO P w K mg base cv) (ok_is_odd:yz P w K mg base cv):XQ P w K mg base cv:=
 qN (k:=1) (own':=[]) (fb:=WL) T sc_bars fun cdv f A outer s H E hr=>(qh (qP (i:=3) sc_bars.nd rfl (aB rfl) (ql ok_comes_to hr (by decide) qO rfl (qc (vr 0) (qc (vr 2) (qc qr qg)))))
  (qh (jK (jI rfl (ql ok_is_odd hr (by decide) qO rfl (qc (vr 0) qg)) (fun _=>rfl)) (qm (qp (Wh (yd (yO rfl hr.units) (qS wv (vr 1) qr) qr) (YN (yd (yO rfl hr.units) (qS wv (vr 3) qr) qr))))) jj)
  (qm (qp (yd (YI rfl hr.units) (qS wv (vr 3) (vr 1)) qr)))))
abbrev jp:Stmt:=top 25
abbrev vw:List Str:=["seen"]
theorem Qw:FnScope vw ["seen"] (qf jp):=⟨rfl,rfl,rfl,by decide +kernel,rfl,by decide +kernel,by decide +kernel⟩
noncomputable def wR:Sl->Out (Fl×Sl):=(jZ (d1 xU (d2 jJ (ju [] 1 [] (km (qe 0)) (gNm 0) ftT (d2 ixD (qe 0) (dC (.int 0)))) (ju [] 1 [] (km (qe 0)) (gNm 0) ftT (d2 ixD (qe 0) (dC (.int 1)))))))
noncomputable abbrev vx:List D->Out (D×List D):=kB vw [.val] (wR)
abbrev yA P w K mg base cv:=DefOk P w K mg base cv 1 "letters_of" ["seen"] [.val] .sh (vx)
theorem Qx (Z:Zt K mg cv ca) (T:jm K mg "letters_of" jp ["seen"]):yA P w K mg base cv:=
 qN (k:=0) (own':=[]) (fb:=wR) T Qw fun cdv f A outer s H E hr=>(qm (qp (UL rfl rfl rfl Z.z_sorted Kc rfl Z.z_set qbb (qS (jk rfl) (jC (N:=["pair"]) (nt:=1) (cap:=[]) rfl (vf (names:=(qf jp).names) rfl (by decide +kernel)) (jG (names:=(qf jp).names) (N:=vw) rfl rfl (by decide +kernel)) (qW rfl (vr 0)) (fun fp L s1 H1=>(qu (i:=0) (show aR (["pair"]:List Str) from by decide +kernel) rfl (aB rfl))) (fun fp L s1 H1=>jg) (fun fp L s1 H1=>(jS rfl hr.units (vr 0) qr (fun _ _=>rfl)))) (jC (N:=["pair"]) (nt:=1) (cap:=[]) rfl (vf (names:=(qf jp).names) rfl (by decide +kernel)) (jG (names:=(qf jp).names) (N:=vw) rfl rfl (by decide +kernel)) (qW rfl (vr 0)) (fun fp L s1 H1=>(qu (i:=0) (show aR (["pair"]:List Str) from by decide +kernel) rfl (aB rfl))) (fun fp L s1 H1=>jg) (fun fp L s1 H1=>(jS rfl hr.units (vr 0) qr (fun _ _=>rfl))))))))
abbrev kn:Stmt:=top 28
abbrev uC:List Str:=["pair", "letter"]
theorem zM:FnScope uC ["pair", "letter"] (qf kn):=⟨rfl,rfl,rfl,by decide +kernel,rfl,by decide +kernel,by decide +kernel⟩
noncomputable def vH:Sl->Out (Fl×Sl):=(jZ (dIf (je (d2 eqD (qe 1) (d2 ixD (qe 0) (dC (.int 0))))) (d2 ixD (qe 0) (dC (.int 1))) (d2 ixD (qe 0) (dC (.int 0)))))
noncomputable abbrev ko:List D->Out (D×List D):=kB uC [.val,.val] (vH)
abbrev wS P w K mg base cv:=DefOk P w K mg base cv 1 "other_letter" ["pair", "letter"] [.val,.val] .sh (ko)
theorem zN (Z:Zt K mg cv ca) (T:jm K mg "other_letter" kn ["pair", "letter"]):wS P w K mg base cv:=
 qN (k:=0) (own':=[]) (fb:=vH) T zM fun cdv f A outer s H E hr=>(qm (qp (YO (ja (yO rfl hr.units) (vr 1) (jS rfl hr.units (vr 0) qr (fun _ _=>rfl))) (jS rfl hr.units (vr 0) qr (fun _ _=>rfl)) (jS rfl hr.units (vr 0) qr (fun _ _=>rfl)))))
abbrev xX:Stmt:=top 32
abbrev Qy:List Str:=["seen", "root", "ways", "waiting", "letter", "at", "pair", "reached"]
theorem sc_spread:FnScope Qy ["seen", "root", "ways"] (qf xX):=⟨rfl,rfl,rfl,by decide +kernel,rfl,by decide +kernel,by decide +kernel⟩
noncomputable def Qz:Sl->Out (Fl×Sl):=(ji (Qk 2 (zm (qd (qe 1) (qd (xO qH) qH))) (qe 1))
  (ji (kb 3 (xO (qd (qe 1) qH)))
  (jf (je (d2 gtD (d1 jF (qe 3)) (dC (.int 0))))
  (ji (kb 4 (XC 3))
  (KU (UQ (qe 0)) (kz 2 (qJ (gNm 5) (qJ (gNm 6) ky)))
  (ji (kb 7 (qt [.vl,.vl] ko (qd (qe 6) (qd (qe 4) qH))))
  (sIf (qca (je (d2 inA (qe 4) (qe 6))) (je (d2 xT (qe 7) (qe 2)))) (ji (Qk 2 (zm (qd (qe 1) (qd (d2 jJ (d2 ixD (d2O 2 ixD (qe 4)) (dC (.int 1))) (xO (qd (qe 5) qH))) qH))) (qe 7))
  (wC (KZ 3 Wq (qe 7)))) ka)))) 20)))
noncomputable abbrev xY:List D->Out (D×List D):=kB Qy [.val,.val,.io] (Qz)
abbrev Kg P w K mg base cv:=DefOk P w K mg base cv 2 "spread" ["seen", "root", "ways"] [.val,.val,.io] .sh (xY)
theorem XR (Z:Zt K mg cv ca) (T:jm K mg "spread" xX ["seen", "root", "ways"]) (ok_other_letter:wS P w K mg base cv):Kg P w K mg base cv:=
 qN (k:=1) (own':=[3,2]) (fb:=Qz) T sc_spread fun cdv f A outer s H E hr=>(qh (Ql (n:=2) hr.units rfl (aB rfl) (by decide) (wE (qc (vr 1) (qc (kr qg) qg))) (vr 1))
  (qh (vg (i:=3) sc_spread.nd rfl (aB rfl) (kr (qc (vr 1) qg)))
  (qm (zn 20 aX (ja qea (qG (jB rfl) rfl Z.z_len jy (wB (i:=3) rfl (aB rfl) (by decide))) qr)
  (qh (qP (i:=4) sc_spread.nd rfl (aB rfl) (qcF (i:=3) rfl (aB rfl) (by decide)))
  (qm (vE aX rfl (WC rfl rfl Z.z_enumerate (vr 0)) (vY rfl rfl (qQ (qu (i:=5) sc_spread.nd rfl (aB rfl)) (qQ (qu (i:=6) sc_spread.nd rfl (aB rfl)) kC)))
  (qh (qP (i:=7) sc_spread.nd rfl (aB rfl) (ql ok_other_letter hr (by decide) qO rfl (qc (vr 6) (qc (vr 4) qg))))
  (qm (jK (PW.pt (YM (ja (qep rfl hr.units) (vr 4) (vr 6)) (uJ (ja (vL rfl hr.units) (vr 7) (wB (i:=2) rfl (aB rfl) (by decide)))))) (qh (Ql (n:=2) hr.units rfl (aB rfl) (by decide) (wE (qc (vr 1) (qc (qS (jk rfl) (jS rfl hr.units (XB (i:=2) rfl hr.units rfl (aB rfl) (by decide) (vr 4) (fun _ _=>rfl)) qr (fun _ _=>rfl)) (kr (qc (vr 5) qg))) qg))) (vr 7))
  (qm (kl (ym (i:=3) rfl rfl (aB rfl) (by decide) (vr 7))))) jj))))))))))
abbrev yB:Stmt:=top 33
abbrev zO:List Str:=["seen", "ways", "letter"]
theorem sc_ways_of:FnScope zO ["seen"] (qf yB):=⟨rfl,rfl,rfl,by decide +kernel,rfl,by decide +kernel,by decide +kernel⟩
noncomputable def zQ:Sl->Out (Fl×Sl):=(ji (kb 1 (dC (.dct [])))
  (ji (KU (km (qt [.vl] vx (qd (qe 0) qH))) (gNm 2)
  (sIf (je (d2 xT (qe 2) (qe 1))) (wC (qt [.vl,.vl,.sl 1] xY (qd (qe 0) (qd (qe 2) (vd qH))))) ka))
  (jZ (qe 1))))
noncomputable abbrev wT:List D->Out (D×List D):=kB zO [.val] (zQ)
abbrev xh P w K mg base cv:=DefOk P w K mg base cv 3 "ways_of" ["seen"] [.val] .sh (wT)
theorem Yb (Z:Zt K mg cv ca) (T:jm K mg "ways_of" yB ["seen"]) (ok_letters_of:yA P w K mg base cv) (ok_spread:Kg P w K mg base cv):xh P w K mg base cv:=
 qN (k:=2) (own':=[]) (fb:=zQ) T sc_ways_of fun cdv f A outer s H E hr=>(qh (vg (i:=1) sc_ways_of.nd rfl (aB rfl) Wl)
  (qh (vE aX rfl (qW rfl (ql ok_letters_of hr (by decide) qO rfl (qc (vr 0) qg))) (qu (i:=2) sc_ways_of.nd rfl (aB rfl))
  (qm (jK (ja (vL rfl hr.units) (vr 2) (wB (i:=1) rfl (aB rfl) (by decide))) (qm (kl (ql ok_spread hr (by decide) qO rfl (qc (vr 0) (qc (vr 2) (jw (i:=1) rfl (aB rfl) (by decide) qg)))))) jj)))
  (kA [1] (qm (qp (vr 1))))))
abbrev vy:Stmt:=top 34
abbrev wU:List Str:=["seen", "ways", "found", "at", "pair", "back"]
theorem sc_circles_of:FnScope wU ["seen", "ways"] (qf vy):=⟨rfl,rfl,rfl,by decide +kernel,rfl,by decide +kernel,by decide +kernel⟩
noncomputable def wV:Sl->Out (Fl×Sl):=(ji (kb 2 (xO qH))
  (ji (KU (UQ (qe 0)) (kz 2 (qJ (gNm 3) (qJ (gNm 4) ky)))
  (ji (kb 5 (d1 yr (d2 ixD (d2 ixD (qe 1) (d2 ixD (qe 4) (dC (.int 1)))) (dC (.int 1)))))
  (wC (KZ 2 Wq (zm (qd (d2 ixD (d2 ixD (qe 1) (d2 ixD (qe 4) (dC (.int 0)))) (dC (.int 0))) (qd (d2 jJ (d2 jJ (d2 ixD (d2 ixD (qe 1) (d2 ixD (qe 4) (dC (.int 0)))) (dC (.int 1))) (xO (qd (qe 3) qH))) (qe 5)) qH)))))))
  (jZ (qe 2))))
noncomputable abbrev vz:List D->Out (D×List D):=kB wU [.val,.val] (wV)
abbrev wl P w K mg base cv:=DefOk P w K mg base cv 1 "circles_of" ["seen", "ways"] [.val,.val] .sh (vz)
theorem QA (Z:Zt K mg cv ca) (T:jm K mg "circles_of" vy ["seen", "ways"]):wl P w K mg base cv:=
 qN (k:=0) (own':=[]) (fb:=wV) T sc_circles_of fun cdv f A outer s H E hr=>(qh (vg (i:=2) sc_circles_of.nd rfl (aB rfl) (kr qg))
  (qh (vE aX rfl (WC rfl rfl Z.z_enumerate (vr 0)) (vY rfl rfl (qQ (qu (i:=3) sc_circles_of.nd rfl (aB rfl)) (qQ (qu (i:=4) sc_circles_of.nd rfl (aB rfl)) kC)))
  (qh (qP (i:=5) sc_circles_of.nd rfl (aB rfl) (UT rfl rfl rfl Z.z_list Vj rfl Z.z_reversed Vk (jS rfl hr.units (jS rfl hr.units (vr 1) (jS rfl hr.units (vr 4) qr (fun _ _=>rfl)) (fun _ _=>rfl)) qr (fun _ _=>rfl))))
  (qm (kl (ym (i:=2) rfl rfl (aB rfl) (by decide) (wE (qc (jS rfl hr.units (jS rfl hr.units (vr 1) (jS rfl hr.units (vr 4) qr (fun _ _=>rfl)) (fun _ _=>rfl)) qr (fun _ _=>rfl)) (qc (qS (jk rfl) (qS (jk rfl) (jS rfl hr.units (jS rfl hr.units (vr 1) (jS rfl hr.units (vr 4) qr (fun _ _=>rfl)) (fun _ _=>rfl)) qr (fun _ _=>rfl)) (kr (qc (vr 3) qg))) (vr 5)) qg))))))))
  (kA [2] (qm (qp (vr 2))))))
abbrev wm:Stmt:=top 35
abbrev uP:List Str:=["circles", "first", "root", "walk"]
theorem sc_first_odd:FnScope uP ["circles"] (qf wm):=⟨rfl,rfl,rfl,by decide +kernel,rfl,by decide +kernel,by decide +kernel⟩
noncomputable def uQ:Sl->Out (Fl×Sl):=(ji (kb 1 (dC (.dct [])))
  (ji (KU (km (qe 0)) (kz 2 (qJ (gNm 2) (qJ (gNm 3) ky)))
  (sIf (qca (zl (qt [.vl] wk (qd (qe 3) qH))) (je (d2 xT (qe 2) (qe 1)))) (Qk 1 (qe 3) (qe 2)) ka))
  (jZ (qe 1))))
noncomputable abbrev wo:List D->Out (D×List D):=kB uP [.val] (uQ)
abbrev wW P w K mg base cv:=DefOk P w K mg base cv 2 "first_odd" ["circles"] [.val] .sh (wo)
theorem Kh (Z:Zt K mg cv ca) (T:jm K mg "first_odd" wm ["circles"]) (ok_is_odd:yz P w K mg base cv):wW P w K mg base cv:=
 qN (k:=1) (own':=[]) (fb:=uQ) T sc_first_odd fun cdv f A outer s H E hr=>(qh (vg (i:=1) sc_first_odd.nd rfl (aB rfl) Wl)
  (qh (vE aX rfl (qW rfl (vr 0)) (vY rfl rfl (qQ (qu (i:=2) sc_first_odd.nd rfl (aB rfl)) (qQ (qu (i:=3) sc_first_odd.nd rfl (aB rfl)) kC)))
  (qm (jK (PW.pt (YM (jI rfl (ql ok_is_odd hr (by decide) qO rfl (qc (vr 3) qg)) (fun _=>rfl)) (uJ (ja (vL rfl hr.units) (vr 2) (wB (i:=1) rfl (aB rfl) (by decide)))))) (qm (Ql (n:=1) hr.units rfl (aB rfl) (by decide) (vr 3) (vr 2))) jj)))
  (kA [1] (qm (qp (vr 1))))))
abbrev uj:Stmt:=top 36
abbrev xZ:List Str:=["seen", "room", "numbers", "circles", "first", "joined", "root", "walk"]
theorem sc_bar_of:FnScope xZ ["seen", "room", "numbers"] (qf uj):=⟨rfl,rfl,rfl,by decide +kernel,rfl,by decide +kernel,by decide +kernel⟩
noncomputable def QB:Sl->Out (Fl×Sl):=(ji (kb 3 (qt [.vl,.vl] vz (qd (qe 0) (qd (qt [.vl] wT (qd (qe 0) qH)) qH))))
  (ji (kb 4 (qt [.vl] wo (qd (qe 3) qH)))
  (ji (kb 5 (ju [] 2 [4] (km (qe 3)) (kz 2 (qJ (gNm 0) (qJ (gNm 1) ky))) (zl (qt [.vl] wk (qd (qe 1) qH))) (zm (qd (qe 0) (qd (d2 jJ (d2 ixD (qe 2) (qe 0)) (qe 1)) qH)))))
  (ji (KU (km (d2 jJ (qe 3) (qe 5))) (kz 2 (qJ (gNm 6) (qJ (gNm 7) ky)))
  (sIf (zl (qt [.vl,.vl,.vl] WM (qd (qe 7) (qd (qe 1) (qd (qe 2) qH))))) (jZ (zm (qd (qe 6) (qd (qe 7) qH)))) ka))
  (jZ (dC .non))))))
noncomputable abbrev yC:List D->Out (D×List D):=kB xZ [.val,.val,.val] (QB)
abbrev yD P w K mg base cv:=DefOk P w K mg base cv 4 "bar_of" ["seen", "room", "numbers"] [.val,.val,.val] .sh (yC)
theorem XS (Z:Zt K mg cv ca) (T:jm K mg "bar_of" uj ["seen", "room", "numbers"]) (ok_is_odd:yz P w K mg base cv) (ok_bars:XQ P w K mg base cv) (ok_ways_of:xh P w K mg base cv) (ok_circles_of:wl P w K mg base cv) (ok_first_odd:wW P w K mg base cv):yD P w K mg base cv:=
 qN (k:=3) (own':=[]) (fb:=QB) T sc_bar_of fun cdv f A outer s H E hr=>(qh (qP (i:=3) sc_bar_of.nd rfl (aB rfl) (ql ok_circles_of hr (by decide) qO rfl (qc (vr 0) (qc (ql ok_ways_of hr (by decide) qO rfl (qc (vr 0) qg)) qg))))
  (qh (qP (i:=4) sc_bar_of.nd rfl (cN rfl) (ql ok_first_odd hr (by decide) qO rfl (qc (vr 3) qg)))
  (qh (yk (N:=["root", "walk", "first"]) (nt:=2) (cap:=[4]) sc_bar_of.nd (i:=5) rfl (aB rfl) rfl (vf (names:=(qf uj).names) rfl (by decide +kernel)) (jG (names:=(qf uj).names) (N:=xZ) rfl rfl (by decide +kernel)) (qW rfl (vr 3)) (fun fp L s1 H1=>(vY rfl rfl (qQ (qu (i:=0) (show aR (["root", "walk", "first"]:List Str) from by decide +kernel) rfl (aB rfl)) (qQ (qu (i:=1) (show aR (["root", "walk", "first"]:List Str) from by decide +kernel) rfl (aB rfl)) kC)))) (fun fp L s1 H1=>(zp (jI rfl (ql ok_is_odd hr (by decide) xH rfl (qc (vr 1) qg)) (fun _=>rfl)))) (fun fp L s1 H1=>(wE (qc (vr 0) (qc (qS (jk rfl) (jS rfl hr.units (vr 2) (vr 0) (fun _ _=>rfl)) (vr 1)) qg)))))
  (qh (vE aX rfl (qW rfl (qS (jk rfl) (vr 3) (wB (i:=5) rfl (aB rfl) (by decide)))) (vY rfl rfl (qQ (qu (i:=6) sc_bar_of.nd rfl (aB rfl)) (qQ (qu (i:=7) sc_bar_of.nd rfl (aB rfl)) kC)))
  (qm (jK (jI rfl (ql ok_bars hr (by decide) qO rfl (qc (vr 7) (qc (vr 1) (qc (vr 2) qg)))) (fun _=>rfl)) (qm (qp (wE (qc (vr 6) (qc (vr 7) qg))))) jj)))
  (qm (qp Ju))))))
abbrev qaq:Stmt:=top 37
abbrev qeE:List Str:=["words", "look", "room", "numbers"]
theorem qeF:FnScope qeE ["words", "look", "room", "numbers"] (qf qaq):=⟨rfl,rfl,rfl,by decide +kernel,rfl,by decide +kernel,by decide +kernel⟩
noncomputable def qcL:Sl->Out (Fl×Sl):=(jZ (qt [.vl,.vl,.vl] yC (qd (qt [.vl,.vl,.vl,.vl] kt (qd (qe 0) (qd (qe 1) (qd (qe 2) (qd (qe 3) qH))))) (qd (qe 2) (qd (qe 3) qH)))))
noncomputable abbrev qcM:List D->Out (D×List D):=kB qeE [.val,.val,.val,.val] (qcL)
abbrev qbe P w K mg base cv:=DefOk P w K mg base cv 7 "bar" ["words", "look", "room", "numbers"] [.val,.val,.val,.val] .sh (qcM)
theorem qeG (Z:Zt K mg cv ca) (T:jm K mg "bar" qaq ["words", "look", "room", "numbers"]) (ok_told_pairs:kH P w K mg base cv) (ok_bar_of:yD P w K mg base cv):qbe P w K mg base cv:=
 qN (k:=6) (own':=[]) (fb:=qcL) T qeF fun cdv f A outer s H E hr=>(qm (qp (ql ok_bar_of hr (by decide) qO rfl (qc (ql ok_told_pairs hr (by decide) qO rfl (qc (vr 0) (qc (vr 1) (qc (vr 2) (qc (vr 3) qg))))) (qc (vr 2) (qc (vr 3) qg))))))
abbrev WN:Stmt:=top 38
abbrev qbf:List Str:=["total", "room", "rest"]
theorem sc_half:FnScope qbf ["total", "room"] (qf WN):=⟨rfl,rfl,rfl,by decide +kernel,rfl,by decide +kernel,by decide +kernel⟩
noncomputable def XT:Sl->Out (Fl×Sl):=(ji (kb 2 (d2 gj (qe 0) (qe 1)))
  (jZ (dIf (je (d2 eqD (d2 gj (qe 2) (dC (.int 2))) (dC (.int 0)))) (d2 UB (qe 2) (dC (.int 2))) (d2 UB (d2 jJ (qe 2) (qe 1)) (dC (.int 2))))))
noncomputable abbrev XU:List D->Out (D×List D):=kB qbf [.val,.val] (XT)
abbrev XV P w K mg base cv:=DefOk P w K mg base cv 1 "half" ["total", "room"] [.val,.val] .sh (XU)
theorem qcN (Z:Zt K mg cv ca) (T:jm K mg "half" WN ["total", "room"]):XV P w K mg base cv:=
 qN (k:=0) (own':=[]) (fb:=XT) T sc_half fun cdv f A outer s H E hr=>(qh (qP (i:=2) sc_half.nd rfl (aB rfl) (qS wv (vr 0) (vr 1)))
  (qm (qp (YO (ja (yO rfl hr.units) (qS wv (vr 2) qr) qr) (qS KP (vr 2) qr) (qS KP (qS (jk rfl) (vr 2) (vr 1)) qr)))))
abbrev kI:Stmt:=top 39
abbrev yE:List Str:=["walk", "room", "numbers", "worth"]
theorem sc_root_worths:FnScope yE ["walk", "room", "numbers"] (qf kI):=⟨rfl,rfl,rfl,by decide +kernel,rfl,by decide +kernel,by decide +kernel⟩
noncomputable def jV:Sl->Out (Fl×Sl):=(ji (sIf (je (d2 eqD (d1 jF (qe 0)) (dC (.int 0)))) (jZ (d1 yq (qe 1))) ka)
  (ji (kb 3 (qt [.vl,.vl] XU (qd (qt [.vl,.vl,.vl] ui (qd (qe 0) (qd (qe 2) (qd (dC (.int 0)) qH)))) (qd (qe 1) qH))))
  (jZ (dIf (je (d2 eqD (d2 gj (qe 1) (dC (.int 2))) (dC (.int 0)))) (xO (qd (qe 3) (qd (d2 jJ (qe 3) (d2 UB (qe 1) (dC (.int 2)))) qH))) (xO (qd (qe 3) qH))))))
noncomputable abbrev kJ:List D->Out (D×List D):=kB yE [.val,.val,.val] (jV)
abbrev uD P w K mg base cv:=DefOk P w K mg base cv 2 "root_worths" ["walk", "room", "numbers"] [.val,.val,.val] .sh (kJ)
theorem gx (Z:Zt K mg cv ca) (T:jm K mg "root_worths" kI ["walk", "room", "numbers"]) (ok_comes_to:uO P w K mg base cv) (ok_half:XV P w K mg base cv):uD P w K mg base cv:=
 qN (k:=1) (own':=[]) (fb:=jV) T sc_root_worths fun cdv f A outer s H E hr=>(qh (jK (ja (yO rfl hr.units) (qG (jB rfl) rfl Z.z_len jy (vr 0)) qr) (qm (qp (UP rfl rfl Z.z_list Vj rfl Z.z_range qan (vr 1)))) jj)
  (qh (qP (i:=3) sc_root_worths.nd rfl (aB rfl) (ql ok_half hr (by decide) qO rfl (qc (ql ok_comes_to hr (by decide) qO rfl (qc (vr 0) (qc (vr 2) (qc qr qg)))) (qc (vr 1) qg))))
  (qm (qp (YO (ja (yO rfl hr.units) (qS wv (vr 1) qr) qr) (kr (qc (vr 3) (qc (qS (jk rfl) (vr 3) (qS KP (vr 1) qr)) qg))) (kr (qc (vr 3) qg)))))))
abbrev jP:Stmt:=top 40
abbrev vQ:List Str:=["seen", "room", "numbers", "ways", "first", "roots"]
theorem sc_roots_of:FnScope vQ ["seen", "room", "numbers"] (qf jP):=⟨rfl,rfl,rfl,by decide +kernel,rfl,by decide +kernel,by decide +kernel⟩
noncomputable def xi:Sl->Out (Fl×Sl):=(ji (kb 3 (qt [.vl] wT (qd (qe 0) qH)))
  (ji (kb 4 (qt [.vl] wo (qd (qt [.vl,.vl] vz (qd (qe 0) (qd (qe 3) qH))) qH)))
  (ji (kb 5 (ju [] 1 [3] (km (d1 vZ (qe 3))) (gNm 0) (je (d2 eqD (d2 ixD (d2 ixD (qe 1) (qe 0)) (dC (.int 0))) (qe 0))) (qe 0)))
  (jZ (ju [] 1 [1,2,4] (km (qe 5)) (gNm 0) ftT (zm (qd (qe 0) (qd (qt [.vl,.vl,.vl] kJ (qd (qad (qe 3) (qe 0) (xO qH)) (qd (qe 1) (qd (qe 2) qH)))) qH))))))))
noncomputable abbrev uk:List D->Out (D×List D):=kB vQ [.val,.val,.val] (xi)
abbrev zR P w K mg base cv:=DefOk P w K mg base cv 4 "roots_of" ["seen", "room", "numbers"] [.val,.val,.val] .sh (uk)
theorem Vq (Z:Zt K mg cv ca) (T:jm K mg "roots_of" jP ["seen", "room", "numbers"]) (ok_ways_of:xh P w K mg base cv) (ok_circles_of:wl P w K mg base cv) (ok_first_odd:wW P w K mg base cv) (ok_root_worths:uD P w K mg base cv):zR P w K mg base cv:=
 qN (k:=3) (own':=[]) (fb:=xi) T sc_roots_of fun cdv f A outer s H E hr=>(qh (qP (i:=3) sc_roots_of.nd rfl (cN rfl) (ql ok_ways_of hr (by decide) qO rfl (qc (vr 0) qg)))
  (qh (qP (i:=4) sc_roots_of.nd rfl (cN rfl) (ql ok_first_odd hr (by decide) qO rfl (qc (ql ok_circles_of hr (by decide) qO rfl (qc (vr 0) (qc (vr 3) qg))) qg)))
  (qh (yk (N:=["letter", "ways"]) (nt:=1) (cap:=[3]) sc_roots_of.nd (i:=5) rfl (aB rfl) rfl (vf (names:=(qf jP).names) rfl (by decide +kernel)) (jG (names:=(qf jP).names) (N:=vQ) rfl rfl (by decide +kernel)) (qW rfl (qG (UR rfl) rfl Z.z_sorted Kc (vr 3))) (fun fp L s1 H1=>(qu (i:=0) (show aR (["letter", "ways"]:List Str) from by decide +kernel) rfl (aB rfl))) (fun fp L s1 H1=>(zp (ja (yO rfl hr.units) (jS rfl hr.units (jS rfl hr.units (vr 1) (vr 0) (fun _ _=>rfl)) qr (fun _ _=>rfl)) (vr 0)))) (fun fp L s1 H1=>(vr 0)))
  (kA [5] (qm (qp (jC (N:=["root", "room", "numbers", "first"]) (nt:=1) (cap:=[1,2,4]) rfl (vf (names:=(qf jP).names) rfl (by decide +kernel)) (jG (names:=(qf jP).names) (N:=vQ) rfl rfl (by decide +kernel)) (qW rfl (vr 5)) (fun fp L s1 H1=>(qu (i:=0) (show aR (["root", "room", "numbers", "first"]:List Str) from by decide +kernel) rfl (aB rfl))) (fun fp L s1 H1=>jg) (fun fp L s1 H1=>(wE (qc (vr 0) (qc (ql ok_root_worths hr (by decide) xH rfl (qc (qcG hr.units (vr 3) (vr 0) (kr qg)) (qc (vr 1) (qc (vr 2) qg)))) qg)))))))))))
abbrev ul:Stmt:=top 42
abbrev xj:List Str:=["words", "look", "room", "numbers", "count", "root", "choices"]
theorem sc_how_many:FnScope xj ["words", "look", "room", "numbers"] (qf ul):=⟨rfl,rfl,rfl,by decide +kernel,rfl,by decide +kernel,by decide +kernel⟩
noncomputable def um:Sl->Out (Fl×Sl):=(ji (sIf (je (d2 GD (qt [.vl,.vl,.vl,.vl] qcM (qd (qe 0) (qd (qe 1) (qd (qe 2) (qd (qe 3) qH))))) (dC .non))) (jZ (dC (.int 0))) ka)
  (ji (kb 4 (dC (.int 1)))
  (ji (KU (km (qt [.vl,.vl,.vl] uk (qd (qt [.vl,.vl] xc (qd (qe 0) (qd (qe 1) qH))) (qd (qe 2) (qd (qe 3) qH))))) (kz 2 (qJ (gNm 5) (qJ (gNm 6) ky)))
  (kb 4 (d2 Yl (qe 4) (d1 jF (qe 6)))))
  (jZ (qe 4)))))
noncomputable abbrev vR:List D->Out (D×List D):=kB xj [.val,.val,.val,.val] (um)
abbrev zS P w K mg base cv:=DefOk P w K mg base cv 8 "how_many" ["words", "look", "room", "numbers"] [.val,.val,.val,.val] .sh (vR)
theorem Vr (Z:Zt K mg cv ca) (T:jm K mg "how_many" ul ["words", "look", "room", "numbers"]) (ok_pairs:Qq P w K mg base cv) (ok_bar:qbe P w K mg base cv) (ok_roots_of:zR P w K mg base cv):zS P w K mg base cv:=
 qN (k:=7) (own':=[]) (fb:=um) T sc_how_many fun cdv f A outer s H E hr=>(qh (jK (ja qcc (ql ok_bar hr (by decide) qO rfl (qc (vr 0) (qc (vr 1) (qc (vr 2) (qc (vr 3) qg))))) Ju) (qm (qp qr)) jj)
  (qh (qP (i:=4) sc_how_many.nd rfl (aB rfl) qr)
  (qh (vE aX rfl (qW rfl (ql ok_roots_of hr (by decide) qO rfl (qc (ql ok_pairs hr (by decide) qO rfl (qc (vr 0) (qc (vr 1) qg))) (qc (vr 2) (qc (vr 3) qg))))) (vY rfl rfl (qQ (qu (i:=5) sc_how_many.nd rfl (aB rfl)) (qQ (qu (i:=6) sc_how_many.nd rfl (aB rfl)) kC)))
  (qm (qP (i:=4) sc_how_many.nd rfl (aB rfl) (qS Jw (vr 4) (qG (jB rfl) rfl Z.z_len jy (vr 6))))))
  (qm (qp (vr 4))))))
abbrev qF:Stmt:=top 44
abbrev qY:List Str:=["seen", "room", "numbers", "gone", "kept"]
theorem sc_can_be_left_out:FnScope qY ["seen", "room", "numbers", "gone"] (qf qF):=⟨rfl,rfl,rfl,by decide +kernel,rfl,by decide +kernel,by decide +kernel⟩
noncomputable def kf:Sl->Out (Fl×Sl):=(ji (kb 4 (ju [] 1 [3] (kx (d1 jF (qe 0))) (gNm 0) (je (d2 xT (qe 0) (qe 1))) (qe 0)))
  (jZ (d2 qcb (qt [.vl,.vl,.vl] yC (qd (ju [] 1 [0] (km (qe 4)) (gNm 0) ftT (d2 ixD (qe 1) (qe 0))) (qd (qe 1) (qd (ju [] 1 [2] (km (qe 4)) (gNm 0) ftT (d2 ixD (qe 1) (qe 0))) qH)))) (dC .non))))
noncomputable abbrev qZ:List D->Out (D×List D):=kB qY [.val,.val,.val,.val] (kf)
abbrev vA P w K mg base cv:=DefOk P w K mg base cv 5 "can_be_left_out" ["seen", "room", "numbers", "gone"] [.val,.val,.val,.val] .sh (qZ)
theorem yF (Z:Zt K mg cv ca) (T:jm K mg "can_be_left_out" qF ["seen", "room", "numbers", "gone"]) (ok_bar_of:yD P w K mg base cv):vA P w K mg base cv:=
 qN (k:=4) (own':=[]) (fb:=kf) T sc_can_be_left_out fun cdv f A outer s H E hr=>(qh (yk (N:=["at", "gone"]) (nt:=1) (cap:=[3]) sc_can_be_left_out.nd (i:=4) rfl (aB rfl) rfl (vf (names:=(qf qF).names) rfl (by decide +kernel)) (jG (names:=(qf qF).names) (N:=qY) rfl rfl (by decide +kernel)) (uf rfl Z.z_range (qG (jB rfl) rfl Z.z_len jy (vr 0))) (fun fp L s1 H1=>(qu (i:=0) (show aR (["at", "gone"]:List Str) from by decide +kernel) rfl (aB rfl))) (fun fp L s1 H1=>(zp (ja (vL rfl hr.units) (vr 0) (vr 1)))) (fun fp L s1 H1=>(vr 0)))
  (kA [4] (qm (qp (yd qa1 (ql ok_bar_of hr (by decide) qO rfl (qc (jC (N:=["at", "seen"]) (nt:=1) (cap:=[0]) rfl (vf (names:=(qf qF).names) rfl (by decide +kernel)) (jG (names:=(qf qF).names) (N:=qY) rfl rfl (by decide +kernel)) (qW rfl (vr 4)) (fun fp L s1 H1=>(qu (i:=0) (show aR (["at", "seen"]:List Str) from by decide +kernel) rfl (aB rfl))) (fun fp L s1 H1=>jg) (fun fp L s1 H1=>(jS rfl hr.units (vr 1) (vr 0) (fun _ _=>rfl)))) (qc (vr 1) (qc (jC (N:=["at", "numbers"]) (nt:=1) (cap:=[2]) rfl (vf (names:=(qf qF).names) rfl (by decide +kernel)) (jG (names:=(qf qF).names) (N:=qY) rfl rfl (by decide +kernel)) (qW rfl (vr 4)) (fun fp L s1 H1=>(qu (i:=0) (show aR (["at", "numbers"]:List Str) from by decide +kernel) rfl (aB rfl))) (fun fp L s1 H1=>jg) (fun fp L s1 H1=>(jS rfl hr.units (vr 1) (vr 0) (fun _ _=>rfl)))) qg)))) Ju)))))
abbrev jQ:Stmt:=top 45
abbrev vB:List Str:=["choices", "count", "found", "choice", "start"]
theorem sc_one_longer:FnScope vB ["choices", "count"] (qf jQ):=⟨rfl,rfl,rfl,by decide +kernel,rfl,by decide +kernel,by decide +kernel⟩
noncomputable def wX:Sl->Out (Fl×Sl):=(ji (kb 2 (xO qH))
  (ji (KU (km (qe 0)) (gNm 3)
  (ji (kb 4 (dIf (je (d2 gtD (d1 jF (qe 3)) (dC (.int 0)))) (d2 jJ (d2 ixD (qe 3) (d1 qek (dC (.int 1)))) (dC (.int 1))) (dC (.int 0))))
  (wC (KZ 2 qfp (ju [2] 1 [3] (yX (qe 4) (qe 1)) (gNm 0) ftT (d2 jJ (qe 1) (zm (qd (qe 0) qH))))))))
  (jZ (qe 2))))
noncomputable abbrev ku:List D->Out (D×List D):=kB vB [.val,.val] (wX)
abbrev yG P w K mg base cv:=DefOk P w K mg base cv 1 "one_longer" ["choices", "count"] [.val,.val] .sh (ku)
theorem QC (Z:Zt K mg cv ca) (T:jm K mg "one_longer" jQ ["choices", "count"]):yG P w K mg base cv:=
 qN (k:=0) (own':=[]) (fb:=wX) T sc_one_longer fun cdv f A outer s H E hr=>(qh (vg (i:=2) sc_one_longer.nd rfl (aB rfl) (kr qg))
  (qh (vE aX rfl (qW rfl (vr 0)) (qu (i:=3) sc_one_longer.nd rfl (cN rfl))
  (qh (qP (i:=4) sc_one_longer.nd rfl (aB rfl) (YO (ja qea (qG (jB rfl) rfl Z.z_len jy (vr 3)) qr) (qS (jk rfl) (jS rfl hr.units (vr 3) (qd4 qa6 qr) (fun _ _=>rfl)) qr) qr))
  (qm (kl (Xe (i:=2) rfl (aB rfl) (by decide) (jC (N:=["at", "choice"]) (nt:=1) (cap:=[3]) rfl (vf (names:=(qf jQ).names) rfl (by decide +kernel)) (jG (names:=(qf jQ).names) (N:=vB) rfl rfl (by decide +kernel)) (UO rfl Z.z_range (vr 4) (vr 1)) (fun fp L s1 H1=>(qu (i:=0) (show aR (["at", "choice"]:List Str) from by decide +kernel) rfl (aB rfl))) (fun fp L s1 H1=>jg) (fun fp L s1 H1=>(qS (jk rfl) (vr 1) (wE (qc (vr 0) qg))))))))))
  (kA [2] (qm (qp (vr 2))))))
abbrev uo:Stmt:=top 46
abbrev za:List Str:=["seen", "room", "numbers", "choices", "found"]
theorem sc_fewest:FnScope za ["seen", "room", "numbers"] (qf uo):=⟨rfl,rfl,rfl,by decide +kernel,rfl,by decide +kernel,by decide +kernel⟩
noncomputable def QD:Sl->Out (Fl×Sl):=(ji (kb 3 (xO fun ρ=>.ok ([(.tup [])],ρ)))
  (ji (kb 4 (xO qH))
  (ji (jf (je (d2 eqD (d1 jF (qe 4)) (dC (.int 0))))
  (ji (kb 4 (ju [] 1 [0,1,2] (km (qe 3)) (gNm 0) (zl (qt [.vl,.vl,.vl,.vl] qZ (qd (qe 1) (qd (qe 2) (qd (qe 3) (qd (qe 0) qH)))))) (qe 0)))
  (kb 3 (qt [.vl,.vl] ku (qd (qe 3) (qd (d1 jF (qe 0)) qH))))) 20)
  (jZ (qe 4)))))
noncomputable abbrev zb:List D->Out (D×List D):=kB za [.val,.val,.val] (QD)
abbrev zT P w K mg base cv:=DefOk P w K mg base cv 6 "fewest" ["seen", "room", "numbers"] [.val,.val,.val] .sh (zb)
theorem XW (Z:Zt K mg cv ca) (T:jm K mg "fewest" uo ["seen", "room", "numbers"]) (ok_can_be_left_out:vA P w K mg base cv) (ok_one_longer:yG P w K mg base cv):zT P w K mg base cv:=
 qN (k:=5) (own':=[]) (fb:=QD) T sc_fewest fun cdv f A outer s H E hr=>(qh (qP (i:=3) sc_fewest.nd rfl (aB rfl) (qcC 7 rfl))
  (qh (qP (i:=4) sc_fewest.nd rfl (aB rfl) (kr qg))
  (qh (zn 20 aX (ja (yO rfl hr.units) (qG (jB rfl) rfl Z.z_len jy (vr 4)) qr)
  (qh (yk (N:=["gone", "seen", "room", "numbers"]) (nt:=1) (cap:=[0,1,2]) sc_fewest.nd (i:=4) rfl (aB rfl) rfl (vf (names:=(qf uo).names) rfl (by decide +kernel)) (jG (names:=(qf uo).names) (N:=za) rfl rfl (by decide +kernel)) (qW rfl (vr 3)) (fun fp L s1 H1=>(qu (i:=0) (show aR (["gone", "seen", "room", "numbers"]:List Str) from by decide +kernel) rfl (aB rfl))) (fun fp L s1 H1=>(zp (jI rfl (ql ok_can_be_left_out hr (by decide) xH rfl (qc (vr 1) (qc (vr 2) (qc (vr 3) (qc (vr 0) qg))))) (fun _=>rfl)))) (fun fp L s1 H1=>(vr 0)))
  (kA [4] (qm (qP (i:=3) sc_fewest.nd rfl (aB rfl) (ql ok_one_longer hr (by decide) qO rfl (qc (vr 3) (qc (qG (jB rfl) rfl Z.z_len jy (vr 0)) qg))))))))
  (qm (qp (vr 4))))))
abbrev uq:Stmt:=top 47
abbrev gK:List Str:=["words", "look", "room", "numbers", "seen"]
theorem sc_left_out:FnScope gK ["words", "look", "room", "numbers"] (qf uq):=⟨rfl,rfl,rfl,by decide +kernel,rfl,by decide +kernel,by decide +kernel⟩
noncomputable def gL:Sl->Out (Fl×Sl):=(ji (kb 4 (qt [.vl,.vl,.vl,.vl] kt (qd (qe 0) (qd (qe 1) (qd (qe 2) (qd (qe 3) qH))))))
  (jZ (d2 ixD (qt [.vl,.vl,.vl] zb (qd (qe 4) (qd (qe 2) (qd (qe 3) qH)))) (dC (.int 0)))))
noncomputable abbrev kg:List D->Out (D×List D):=kB gK [.val,.val,.val,.val] (gL)
abbrev zU P w K mg base cv:=DefOk P w K mg base cv 7 "left_out" ["words", "look", "room", "numbers"] [.val,.val,.val,.val] .sh (kg)
theorem Vs (Z:Zt K mg cv ca) (T:jm K mg "left_out" uq ["words", "look", "room", "numbers"]) (ok_told_pairs:kH P w K mg base cv) (ok_fewest:zT P w K mg base cv):zU P w K mg base cv:=
 qN (k:=6) (own':=[]) (fb:=gL) T sc_left_out fun cdv f A outer s H E hr=>(qh (qP (i:=4) sc_left_out.nd rfl (aB rfl) (ql ok_told_pairs hr (by decide) qO rfl (qc (vr 0) (qc (vr 1) (qc (vr 2) (qc (vr 3) qg))))))
  (qm (qp (jS rfl hr.units (ql ok_fewest hr (by decide) qO rfl (qc (vr 4) (qc (vr 2) (qc (vr 3) qg)))) qr (fun _ _=>rfl)))))
abbrev qK:Stmt:=top 44
abbrev qU:List Str:=["seen", "room", "numbers", "gone", "kept"]
theorem sc_can_be_left_outL:FnScope qU ["seen", "room", "numbers", "gone"] (qf qK):=⟨rfl,rfl,rfl,by decide +kernel,rfl,by decide +kernel,by decide +kernel⟩
noncomputable def jW:Sl->Out (Fl×Sl):=(ji (kb 4 (ju [2] 1 [3] (kx (d1 jF (qe 0))) (gNm 0) (je (d2 xT (qe 0) (qe 1))) (qe 0)))
  (jZ (d2 qcb (qt [.vl,.vl,.vl] yC (qd (ju [2] 1 [0] (km (qe 4)) (gNm 0) ftT (d2 ixD (qe 1) (qe 0))) (qd (qe 1) (qd (ju [2] 1 [2] (km (qe 4)) (gNm 0) ftT (d2O 1 ixD (qe 0))) qH)))) (dC .non))))
noncomputable abbrev qL:List D->Out (D×List D):=kB qU [.val,.val,.io,.val] (jW)
abbrev kX P w K mg base cv:=DefOk P w K mg base cv 5 "can_be_left_out" ["seen", "room", "numbers", "gone"] [.val,.val,.io,.val] .sh (qL)
theorem uR (Z:Zt K mg cv ca) (T:jm K mg "can_be_left_out" qK ["seen", "room", "numbers", "gone"]) (ok_bar_of:yD P w K mg base cv):kX P w K mg base cv:=
 qN (k:=4) (own':=[2]) (fb:=jW) T sc_can_be_left_outL fun cdv f A outer s H E hr=>(qh (yk (N:=["at", "gone"]) (nt:=1) (cap:=[3]) sc_can_be_left_outL.nd (i:=4) rfl (aB rfl) rfl (vf (names:=(qf qK).names) rfl (by decide +kernel)) (jG (names:=(qf qK).names) (N:=qU) rfl rfl (by decide +kernel)) (uf rfl Z.z_range (qG (jB rfl) rfl Z.z_len jy (vr 0))) (fun fp L s1 H1=>(qu (i:=0) (show aR (["at", "gone"]:List Str) from by decide +kernel) rfl (aB rfl))) (fun fp L s1 H1=>(zp (ja (vL rfl hr.units) (vr 0) (vr 1)))) (fun fp L s1 H1=>(vr 0)))
  (kA [4] (qm (qp (yd qa1 (ql ok_bar_of hr (by decide) qO rfl (qc (jC (N:=["at", "seen"]) (nt:=1) (cap:=[0]) rfl (vf (names:=(qf qK).names) rfl (by decide +kernel)) (jG (names:=(qf qK).names) (N:=qU) rfl rfl (by decide +kernel)) (qW rfl (vr 4)) (fun fp L s1 H1=>(qu (i:=0) (show aR (["at", "seen"]:List Str) from by decide +kernel) rfl (aB rfl))) (fun fp L s1 H1=>jg) (fun fp L s1 H1=>(jS rfl hr.units (vr 1) (vr 0) (fun _ _=>rfl)))) (qc (vr 1) (qc (jC (N:=["at", "numbers"]) (nt:=1) (cap:=[2]) rfl (vf (names:=(qf qK).names) rfl (by decide +kernel)) (jG (names:=(qf qK).names) (N:=qU) rfl rfl (by decide +kernel)) (qW rfl (vr 4)) (fun fp L s1 H1=>(qu (i:=0) (show aR (["at", "numbers"]:List Str) from by decide +kernel) rfl (aB rfl))) (fun fp L s1 H1=>jg) (fun fp L s1 H1=>(XB (i:=1) rfl hr.units rfl (by first | exact cN (cN rfl) | exact cN (aB rfl)) (by decide) (vr 0) (fun _ _=>rfl)))) qg)))) Ju)))))
abbrev jX:Stmt:=top 48
abbrev kY:List Str:=["seen", "room", "numbers", "gone", "found", "place", "at"]
theorem sc_least_without:FnScope kY ["seen", "room", "numbers", "gone"] (qf jX):=⟨rfl,rfl,rfl,by decide +kernel,rfl,by decide +kernel,by decide +kernel⟩
noncomputable def kZ:Sl->Out (Fl×Sl):=(ji (kb 4 (d1 qcp (qe 2)))
  (ji (KU (XJ (qe 3)) (kz 2 (qJ (gNm 5) (qJ (gNm 6) ky)))
  (ji (zD 4 (dC (.int 0)) (qe 6))
  (jf (KQ (zl (qt [.vl,.vl,.sl 4,.vl] qL (qd (qe 0) (qd (qe 1) (vd (qd (Wu (qe 3) (some (d2 jJ (qe 5) (dC (.int 1)))) none none) qH)))))))
  (zD 4 (d2 jJ (d2O 4 ixD (qe 6)) (dC (.int 1))) (qe 6)) 20)))
  (jZ (d1 yo (qe 4)))))
noncomputable abbrev va:List D->Out (D×List D):=kB kY [.val,.val,.val,.val] (kZ)
abbrev wx P w K mg base cv:=DefOk P w K mg base cv 6 "least_without" ["seen", "room", "numbers", "gone"] [.val,.val,.val,.val] .sh (va)
theorem xL (Z:Zt K mg cv ca) (T:jm K mg "least_without" jX ["seen", "room", "numbers", "gone"]) (ok_can_be_left_outL:kX P w K mg base cv):wx P w K mg base cv:=
 qN (k:=5) (own':=[]) (fb:=kZ) T sc_least_without fun cdv f A outer s H E hr=>(qh (vg (i:=4) sc_least_without.nd rfl (aB rfl) (wF (qcq rfl) rfl Z.z_list Vj (vr 2)))
  (qh (vE aX rfl (XM rfl rfl Z.z_enumerate (vr 3)) (vY rfl rfl (qQ (qu (i:=5) sc_least_without.nd rfl (aB rfl)) (qQ (qu (i:=6) sc_least_without.nd rfl (aB rfl)) kC)))
  (qh (Ka (n:=4) rfl (aB rfl) (by decide) qr (vr 6))
  (qm (zn 20 aX (kw (jI rfl (ql ok_can_be_left_outL hr (by decide) qO rfl (qc (vr 0) (qc (vr 1) (jw (i:=4) rfl (aB rfl) (by decide) (qc (GQ rfl (vr 3) (GP (qS (jk rfl) (vr 5) qr)) Wv Wv) qg))))) (fun _=>rfl)))
  (qm (Ka (n:=4) rfl (aB rfl) (by decide) (qS (jk rfl) (XB (i:=4) rfl hr.units rfl (aB rfl) (by decide) (vr 6) (fun _ _=>rfl)) qr) (vr 6)))))))
  (qm (qp (wF (xS rfl) rfl Z.z_tuple wa (wB (i:=4) rfl (aB rfl) (by decide)))))))
abbrev ur:Stmt:=top 49
abbrev QE:List Str:=["words", "look", "room", "numbers", "seen"]
theorem sc_mended:FnScope QE ["words", "look", "room", "numbers"] (qf ur):=⟨rfl,rfl,rfl,by decide +kernel,rfl,by decide +kernel,by decide +kernel⟩
noncomputable def WO:Sl->Out (Fl×Sl):=(ji (kb 4 (qt [.vl,.vl,.vl,.vl] kt (qd (qe 0) (qd (qe 1) (qd (qe 2) (qd (qe 3) qH))))))
  (jZ (d1 qal (ju [] 1 [4,2,3] (km (qt [.vl,.vl,.vl] zb (qd (qe 4) (qd (qe 2) (qd (qe 3) qH))))) (gNm 0) ftT (qt [.vl,.vl,.vl,.vl] va (qd (qe 1) (qd (qe 2) (qd (qe 3) (qd (qe 0) qH)))))))))
noncomputable abbrev yH:List D->Out (D×List D):=kB QE [.val,.val,.val,.val] (WO)
abbrev Ki P w K mg base cv:=DefOk P w K mg base cv 7 "mended" ["words", "look", "room", "numbers"] [.val,.val,.val,.val] .sh (yH)
theorem XX (Z:Zt K mg cv ca) (T:jm K mg "mended" ur ["words", "look", "room", "numbers"]) (ok_told_pairs:kH P w K mg base cv) (ok_fewest:zT P w K mg base cv) (ok_least_without:wx P w K mg base cv):Ki P w K mg base cv:=
 qN (k:=6) (own':=[]) (fb:=WO) T sc_mended fun cdv f A outer s H E hr=>(qh (qP (i:=4) sc_mended.nd rfl (cN rfl) (ql ok_told_pairs hr (by decide) qO rfl (qc (vr 0) (qc (vr 1) (qc (vr 2) (qc (vr 3) qg))))))
  (qm (qp (qG (qcH rfl rfl hr.units) rfl Z.z_min qba (jC (N:=["gone", "seen", "room", "numbers"]) (nt:=1) (cap:=[4,2,3]) rfl (vf (names:=(qf ur).names) rfl (by decide +kernel)) (jG (names:=(qf ur).names) (N:=QE) rfl rfl (by decide +kernel)) (qW rfl (ql ok_fewest hr (by decide) qO rfl (qc (vr 4) (qc (vr 2) (qc (vr 3) qg))))) (fun fp L s1 H1=>(qu (i:=0) (show aR (["gone", "seen", "room", "numbers"]:List Str) from by decide +kernel) rfl (aB rfl))) (fun fp L s1 H1=>jg) (fun fp L s1 H1=>(ql ok_least_without hr (by decide) xH rfl (qc (vr 1) (qc (vr 2) (qc (vr 3) (qc (vr 0) qg)))))))))))
abbrev ut:Stmt:=top 51
abbrev gM:List Str:=["_law_script", "_law_k"]
theorem Vt:FnScope gM ["_law_script", "_law_k"] (qf ut):=⟨rfl,rfl,rfl,by decide +kernel,rfl,by decide +kernel,by decide +kernel⟩
noncomputable def vS:Sl->Out (Fl×Sl):=(ji (sIf (je (d2 ltD (qe 1) (d1 jF (qe 0)))) (jZ (d2 ixD (qe 0) (qe 1))) ka)
  (ji (sIf (je (d2 eqD (qe 0) (xO qH))) (jZ (dC (.int 0))) ka)
  (jZ (d2 jJ (d2 Yl (d2 ixD (qe 0) (d2 gj (qe 1) (d1 jF (qe 0)))) (dC (.int 31))) (qe 1)))))
noncomputable abbrev xk:List D->Out (D×List D):=kB gM [.val,.val] (vS)
abbrev zV P w K mg base cv:=DefOk P w K mg base cv 1 "_law_cell_at" ["_law_script", "_law_k"] [.val,.val] .sh (xk)
theorem Vu (Z:Zt K mg cv ca) (T:jm K mg "_law_cell_at" ut ["_law_script", "_law_k"]):zV P w K mg base cv:=
 qN (k:=0) (own':=[]) (fb:=vS) T Vt fun cdv f A outer s H E hr=>(qh (jK (ja qgc (vr 1) (qG (jB rfl) rfl Z.z_len jy (vr 0))) (qm (qp (jS rfl hr.units (vr 0) (vr 1) (fun _ _=>rfl)))) jj)
  (qh (jK (ja (yO rfl hr.units) (vr 0) (kr qg)) (qm (qp qr)) jj)
  (qm (qp (qS (jk rfl) (qS Jw (jS rfl hr.units (vr 0) (qS wv (vr 1) (qG (jB rfl) rfl Z.z_len jy (vr 0))) (fun _ _=>rfl)) qr) (vr 1))))))
abbrev zc:Stmt:=top 52
abbrev WP:List Str:=["_law_script", "_law_k", "_law_many", "_law_drawn"]
theorem sc_Lmixed:FnScope WP ["_law_script", "_law_k", "_law_many"] (qf zc):=⟨rfl,rfl,rfl,by decide +kernel,rfl,by decide +kernel,by decide +kernel⟩
noncomputable def QF:Sl->Out (Fl×Sl):=(ji (kb 3 (d2 gj (d2 jJ (d2 jJ (d2 Yl (qt [.vl,.vl] xk (qd (qe 0) (qd (qe 1) qH))) (dC (.int 1103515245))) (d2 Yl (dC (.int 7919)) (qe 1))) (dC (.int 12345))) (dC (.int 2147483647))))
  (jZ (d2 gj (d2 gj (d2 gj (d2 qgx (qe 3) (dC (.int 5))) (dC (.int 2147483647))) (dC (.int 999983))) (qe 2))))
noncomputable abbrev QG:List D->Out (D×List D):=kB WP [.val,.val,.val] (QF)
abbrev Kj P w K mg base cv:=DefOk P w K mg base cv 2 "_law_mixed" ["_law_script", "_law_k", "_law_many"] [.val,.val,.val] .sh (QG)
theorem XY (Z:Zt K mg cv ca) (T:jm K mg "_law_mixed" zc ["_law_script", "_law_k", "_law_many"]) (ok_Lcell_at:zV P w K mg base cv):Kj P w K mg base cv:=
 qN (k:=1) (own':=[]) (fb:=QF) T sc_Lmixed fun cdv f A outer s H E hr=>(qh (qP (i:=3) sc_Lmixed.nd rfl (aB rfl) (qS wv (qS (jk rfl) (qS (jk rfl) (qS Jw (ql ok_Lcell_at hr (by decide) qO rfl (qc (vr 0) (qc (vr 1) qg))) qr) (qS Jw qr (vr 1))) qr) qr))
  (qm (qp (qS wv (qS wv (qS wv (qS qew (vr 3) qr) qr) qr) (vr 2)))))
abbrev QH:Stmt:=top 53
abbrev XZ:List Str:=["_law_script", "_law_town", "_law_many"]
theorem qar:FnScope XZ ["_law_script", "_law_town", "_law_many"] (qf QH):=⟨rfl,rfl,rfl,by decide +kernel,rfl,by decide +kernel,by decide +kernel⟩
noncomputable def Vv:Sl->Out (Fl×Sl):=(ji (wC (KZ 1 Wq (dC (.int 0))))
  (jZ (qt [.vl,.vl,.vl] QG (qd (qe 0) (qd (d1 jF (qe 1)) (qd (qe 2) qH))))))
noncomputable abbrev vc:List D->Out (D×List D):=kB XZ [.val,.io,.val] (Vv)
abbrev uu P w K mg base cv:=DefOk P w K mg base cv 3 "_law_draw" ["_law_script", "_law_town", "_law_many"] [.val,.io,.val] .sh (vc)
theorem qas (Z:Zt K mg cv ca) (T:jm K mg "_law_draw" QH ["_law_script", "_law_town", "_law_many"]) (ok_Lmixed:Kj P w K mg base cv):uu P w K mg base cv:=
 qN (k:=2) (own':=[1]) (fb:=Vv) T qar fun cdv f A outer s H E hr=>(qh (kl (ym (i:=1) rfl rfl (aB rfl) (by decide) qr))
  (qm (qp (ql ok_Lmixed hr (by decide) qO rfl (qc (vr 0) (qc (qG (jB rfl) rfl Z.z_len jy (wB (i:=1) rfl (aB rfl) (by decide))) (qc (vr 2) qg)))))))
abbrev QI:Stmt:=top 57
abbrev Za:List Str:=["_law_script", "_law_town"]
theorem qat:FnScope Za ["_law_script", "_law_town"] (qf QI):=⟨rfl,rfl,rfl,by decide +kernel,rfl,by decide +kernel,by decide +kernel⟩
noncomputable def Vw:Sl->Out (Fl×Sl):=(jZ (zm (qd (d2 UA (qt [.vl,.sl 1,.vl] vc (qd (qe 0) (vd (qd (dC (.int 6)) qH)))) (dC (.int 3))) (qd (d2 UA (qt [.vl,.sl 1,.vl] vc (qd (qe 0) (vd (qd (dC (.int 6)) qH)))) (dC (.int 3))) qH))))
noncomputable abbrev Vx:List D->Out (D×List D):=kB Za [.val,.io] (Vw)
abbrev WQ P w K mg base cv:=DefOk P w K mg base cv 4 "_law_look" ["_law_script", "_law_town"] [.val,.io] .sh (Vx)
theorem qau (Z:Zt K mg cv ca) (T:jm K mg "_law_look" QI ["_law_script", "_law_town"]) (ok_Ldraw:uu P w K mg base cv):WQ P w K mg base cv:=
 qN (k:=3) (own':=[1]) (fb:=Vw) T qat fun cdv f A outer s H E hr=>(qm (qp (wE (qc (qS Jv (ql ok_Ldraw hr (by decide) qO rfl (qc (vr 0) (jw (i:=1) rfl (aB rfl) (by decide) (qc qr qg)))) qr) (qc (qS Jv (ql ok_Ldraw hr (by decide) qO rfl (qc (vr 0) (jw (i:=1) rfl (aB rfl) (by decide) (qc qr qg)))) qr) qg)))))
abbrev QJ:Stmt:=top 54
abbrev Zb:List Str:=["_law_script", "_law_town", "_law_some"]
theorem qav:FnScope Zb ["_law_script", "_law_town", "_law_some"] (qf QJ):=⟨rfl,rfl,rfl,by decide +kernel,rfl,by decide +kernel,by decide +kernel⟩
noncomputable def Vy:Sl->Out (Fl×Sl):=(jZ (d2 ixD (qe 2) (qt [.vl,.sl 1,.vl] vc (qd (qe 0) (vd (qd (d1 jF (qe 2)) qH))))))
noncomputable abbrev QK:List D->Out (D×List D):=kB Zb [.val,.io,.val] (Vy)
abbrev WR P w K mg base cv:=DefOk P w K mg base cv 4 "_law_pick" ["_law_script", "_law_town", "_law_some"] [.val,.io,.val] .sh (QK)
theorem qaw (Z:Zt K mg cv ca) (T:jm K mg "_law_pick" QJ ["_law_script", "_law_town", "_law_some"]) (ok_Ldraw:uu P w K mg base cv):WR P w K mg base cv:=
 qN (k:=3) (own':=[1]) (fb:=Vy) T qav fun cdv f A outer s H E hr=>(qm (qp (jS rfl hr.units (vr 2) (ql ok_Ldraw hr (by decide) qO rfl (qc (vr 0) (jw (i:=1) rfl (aB rfl) (by decide) (qc (qG (jB rfl) rfl Z.z_len jy (vr 2)) qg)))) (fun _ _=>rfl))))
abbrev xl:Stmt:=top 55
abbrev Vz:List Str:=["_law_script", "_law_town", "_law_letters_here", "_law_most"]
theorem qax:FnScope Vz ["_law_script", "_law_town", "_law_letters_here", "_law_most"] (qf xl):=⟨rfl,rfl,rfl,by decide +kernel,rfl,by decide +kernel,by decide +kernel⟩
noncomputable def VA:Sl->Out (Fl×Sl):=(jZ (d1 (Xv "") (ju [1] 1 [0,1,2] (kx (d2 jJ (dC (.int 1)) (qt [.vl,.sl 1,.vl] vc (qd (qe 0) (vd (qd (qe 3) qH)))))) (gNm 0) ftT (qt [.vl,.sl 2,.vl] QK (qd (qe 1) (vd (qd (qe 3) qH)))))))
noncomputable abbrev QL:List D->Out (D×List D):=kB Vz [.val,.io,.val,.val] (VA)
abbrev WS P w K mg base cv:=DefOk P w K mg base cv 5 "_law_word" ["_law_script", "_law_town", "_law_letters_here", "_law_most"] [.val,.io,.val,.val] .sh (QL)
theorem qay (Z:Zt K mg cv ca) (T:jm K mg "_law_word" xl ["_law_script", "_law_town", "_law_letters_here", "_law_most"]) (ok_Ldraw:uu P w K mg base cv) (ok_Lpick:WR P w K mg base cv):WS P w K mg base cv:=
 qN (k:=4) (own':=[1]) (fb:=VA) T qax fun cdv f A outer s H E hr=>(qm (qp (qcz rfl (jC (N:=["_law_k", "_law_script", "_law_town", "_law_letters_here"]) (nt:=1) (cap:=[0,1,2]) rfl (vf (names:=(qf xl).names) rfl (by decide +kernel)) (jG (names:=(qf xl).names) (N:=Vz) rfl rfl (by decide +kernel)) (uf rfl Z.z_range (qS (jk rfl) qr (ql ok_Ldraw hr (by decide) qO rfl (qc (vr 0) (jw (i:=1) rfl (cN (aB rfl)) (by decide) (qc (vr 3) qg)))))) (fun fp L s1 H1=>(qu (i:=0) (show aR (["_law_k", "_law_script", "_law_town", "_law_letters_here"]:List Str) from by decide +kernel) rfl (aB rfl))) (fun fp L s1 H1=>jg) (fun fp L s1 H1=>(ql ok_Lpick hr (by decide) xH rfl (qc (vr 1) (jw (i:=2) rfl (by first | exact cN (cN rfl) | exact cN (aB rfl)) (by decide) (qc (vr 3) qg)))))))))
abbrev xm:Stmt:=top 62
abbrev QM:List Str:=["_law_script", "_law_town", "_law_letters_here", "_law_look_here", "_law_room", "_law_names", "_law_k", "_law_word_here"]
theorem sc_Lhalf:FnScope QM ["_law_script", "_law_town", "_law_letters_here", "_law_look_here", "_law_room"] (qf xm):=⟨rfl,rfl,rfl,by decide +kernel,rfl,by decide +kernel,by decide +kernel⟩
noncomputable def VB:Sl->Out (Fl×Sl):=(ji (kb 5 (xO qH))
  (ji (KU (kx (d2 jJ (dC (.int 1)) (qt [.vl,.sl 1,.vl] vc (qd (qe 0) (vd (qd (dC (.int 3)) qH)))))) (gNm 6)
  (ji (kb 7 (qt [.vl,.sl 1,.vl,.vl] QL (qd (qe 0) (vd (qd (qe 2) (qd (dC (.int 4)) qH))))))
  (sIf (je (d2 xT (qe 7) (qe 5))) (wC (KZ 5 Wq (qe 7))) ka)))
  (jZ (zm (qd (d1 yo (qe 5)) (qd (d1 yo (ju [1] 1 [0,1,4] (km (qe 5)) (gNm 0) ftT (qt [.vl,.sl 2,.vl] vc (qd (qe 1) (vd (qd (qe 3) qH)))))) qH))))))
noncomputable abbrev QN:List D->Out (D×List D):=kB QM [.val,.io,.val,.val,.val] (VB)
abbrev WT P w K mg base cv:=DefOk P w K mg base cv 6 "_law_half" ["_law_script", "_law_town", "_law_letters_here", "_law_look_here", "_law_room"] [.val,.io,.val,.val,.val] .sh (QN)
theorem qaz (Z:Zt K mg cv ca) (T:jm K mg "_law_half" xm ["_law_script", "_law_town", "_law_letters_here", "_law_look_here", "_law_room"]) (ok_Ldraw:uu P w K mg base cv) (ok_Lword:WS P w K mg base cv):WT P w K mg base cv:=
 qN (k:=5) (own':=[1]) (fb:=VB) T sc_Lhalf fun cdv f A outer s H E hr=>(qh (vg (i:=5) sc_Lhalf.nd rfl (aB rfl) (kr qg))
  (qh (vE aX rfl (uf rfl Z.z_range (qS (jk rfl) qr (ql ok_Ldraw hr (by decide) qO rfl (qc (vr 0) (jw (i:=1) rfl (cN (aB rfl)) (by decide) (qc qr qg)))))) (qu (i:=6) sc_Lhalf.nd rfl (aB rfl))
  (qh (qP (i:=7) sc_Lhalf.nd rfl (aB rfl) (ql ok_Lword hr (by decide) qO rfl (qc (vr 0) (jw (i:=1) rfl (cN (aB rfl)) (by decide) (qc (vr 2) (qc qr qg))))))
  (qm (jK (ja (vL rfl hr.units) (vr 7) (wB (i:=5) rfl (aB rfl) (by decide))) (qm (kl (ym (i:=5) rfl rfl (aB rfl) (by decide) (vr 7)))) jj))))
  (kA [5] (qm (qp (wE (qc (wF (xS rfl) rfl Z.z_tuple wa (vr 5)) (qc (wF (xS rfl) rfl Z.z_tuple wa (jC (N:=["_law_word_here", "_law_script", "_law_town", "_law_room"]) (nt:=1) (cap:=[0,1,4]) rfl (vf (names:=(qf xm).names) rfl (by decide +kernel)) (jG (names:=(qf xm).names) (N:=QM) rfl rfl (by decide +kernel)) (qW rfl (vr 5)) (fun fp L s1 H1=>(qu (i:=0) (show aR (["_law_word_here", "_law_script", "_law_town", "_law_room"]:List Str) from by decide +kernel) rfl (aB rfl))) (fun fp L s1 H1=>jg) (fun fp L s1 H1=>(ql ok_Ldraw hr (by decide) xH rfl (qc (vr 1) (jw (i:=2) rfl (by first | exact cN (cN rfl) | exact cN (aB rfl)) (by decide) (qc (vr 3) qg))))))) qg))))))))
abbrev VC:Stmt:=top 63
abbrev qaA:List Str:=["_law_script", "_law_town", "_law_room", "_law_look_here", "_law_many", "_law_out", "_law_one", "_law_mine", "_law_other", "_law_its"]
theorem sc_law:FnScope qaA ["_law_script"] (qf VC):=⟨rfl,rfl,rfl,by decide +kernel,rfl,by decide +kernel,by decide +kernel⟩
noncomputable def qcO:Sl->Out (Fl×Sl):=(ji (kb 1 (xO qH))
  (ji (kb 2 (d2 jJ (dC (.int 1)) (qt [.vl,.sl 1,.vl] vc (qd (qe 0) (vd (qd (dC (.int 8)) qH))))))
  (ji (kb 3 (qt [.vl,.sl 1] Vx (qd (qe 0) (vd qH))))
  (ji (qfo (qt [.vl,.sl 1,.vl,.vl,.vl] QN (qd (qe 0) (vd (qd (xO (qd (dC (.str "a")) (qd (dC (.str "b")) qH))) (qd (qe 3) (qd (qe 2) qH)))))) (kz 2 (qJ (gNm 6) (qJ (gNm 7) ky))))
  (ji (qfo (qt [.vl,.sl 1,.vl,.vl,.vl] QN (qd (qe 0) (vd (qd (xO (qd (dC (.str "x")) (qd (dC (.str "y")) (qd (dC (.str "z")) qH)))) (qd (qe 3) (qd (qe 2) qH)))))) (kz 2 (qJ (gNm 8) (qJ (gNm 9) ky))))
  (ji (kb 4 (d2 Yl (qt [.vl,.vl,.vl,.vl] vR (qd (qe 6) (qd (qe 3) (qd (qe 2) (qd (qe 7) qH))))) (qt [.vl,.vl,.vl,.vl] vR (qd (qe 8) (qd (qe 3) (qd (qe 2) (qd (qe 9) qH)))))))
  (ji (sIf (je (d2 neD (qt [.vl,.vl,.vl,.vl] vR (qd (d2 jJ (qe 6) (qe 8)) (qd (qe 3) (qd (qe 2) (qd (d2 jJ (qe 7) (qe 9)) qH))))) (qe 4))) (jZ (dC (.bl false))) ka)
  (ji (kb 5 (d2 jJ (qt [.vl,.vl,.vl,.vl] kg (qd (qe 6) (qd (qe 3) (qd (qe 2) (qd (qe 7) qH))))) (d1 yo (ju [1] 1 [6] (km (qt [.vl,.vl,.vl,.vl] kg (qd (qe 8) (qd (qe 3) (qd (qe 2) (qd (qe 9) qH)))))) (gNm 0) ftT (d2 jJ (d1 jF (qe 1)) (qe 0))))))
  (ji (sIf (je (d2 neD (qt [.vl,.vl,.vl,.vl] kg (qd (d2 jJ (qe 6) (qe 8)) (qd (qe 3) (qd (qe 2) (qd (d2 jJ (qe 7) (qe 9)) qH))))) (qe 5))) (jZ (dC (.bl false))) ka)
  (jZ (d2 eqD (qt [.vl,.vl,.vl,.vl] yH (qd (d2 jJ (qe 6) (qe 8)) (qd (qe 3) (qd (qe 2) (qd (d2 jJ (qe 7) (qe 9)) qH))))) (d2 jJ (qt [.vl,.vl,.vl,.vl] yH (qd (qe 6) (qd (qe 3) (qd (qe 2) (qd (qe 7) qH))))) (qt [.vl,.vl,.vl,.vl] yH (qd (qe 8) (qd (qe 3) (qd (qe 2) (qd (qe 9) qH)))))))))))))))))
noncomputable abbrev qaB:List D->Out (D×List D):=kB qaA [.val] (qcO)
theorem qeH {f:Addr} {fd:FuncData} (Z:Zt K mg cv ca) (F:Fun K "law" "law" VC f fd) (ok_how_many:zS P w K mg base cv) (ok_left_out:zU P w K mg base cv) (ok_mended:Ki P w K mg base cv) (ok_Ldraw:uu P w K mg base cv) (ok_Llook:WQ P w K mg base cv) (ok_Lhalf:WT P w K mg base cv):FnOk P w K mg base (CXk P w) 9 f fd ["_law_script"] (spD K cv [.val] .sh (qaB)):=
 qgU (k:=8) (own':=[]) (fb:=qcO) F sc_law rfl (zk rfl) (.inl rfl) (fun cdv A outer s H E hr=>(qh (vg (i:=1) sc_law.nd rfl (aB rfl) (kr qg))
  (qh (qP (i:=2) sc_law.nd rfl (aB rfl) (qS (jk rfl) qr (ql ok_Ldraw hr (by decide) qO rfl (qc (vr 0) (jw (i:=1) rfl (aB rfl) (by decide) (qc qr qg))))))
  (qh (qP (i:=3) sc_law.nd rfl (aB rfl) (ql ok_Llook hr (by decide) qO rfl (qc (vr 0) (jw (i:=1) rfl (aB rfl) (by decide) qg))))
  (qh (YX (ql ok_Lhalf hr (by decide) qO rfl (qc (vr 0) (jw (i:=1) rfl (aB rfl) (by decide) (qc (kr (qc wu (qc wu qg))) (qc (vr 3) (qc (vr 2) qg)))))) (vY rfl rfl (qQ (qu (i:=6) sc_law.nd rfl (cN rfl)) (qQ (qu (i:=7) sc_law.nd rfl (aB rfl)) kC))))
  (qh (YX (ql ok_Lhalf hr (by decide) qO rfl (qc (vr 0) (jw (i:=1) rfl (aB rfl) (by decide) (qc (kr (qc wu (qc wu (qc wu qg)))) (qc (vr 3) (qc (vr 2) qg)))))) (vY rfl rfl (qQ (qu (i:=8) sc_law.nd rfl (aB rfl)) (qQ (qu (i:=9) sc_law.nd rfl (aB rfl)) kC))))
  (qh (qP (i:=4) sc_law.nd rfl (aB rfl) (qS Jw (ql ok_how_many hr (by decide) qO rfl (qc (vr 6) (qc (vr 3) (qc (vr 2) (qc (vr 7) qg))))) (ql ok_how_many hr (by decide) qO rfl (qc (vr 8) (qc (vr 3) (qc (vr 2) (qc (vr 9) qg)))))))
  (qh (jK (ja (YI rfl hr.units) (ql ok_how_many hr (by decide) qO rfl (qc (qS (jk rfl) (vr 6) (vr 8)) (qc (vr 3) (qc (vr 2) (qc (qS (jk rfl) (vr 7) (vr 9)) qg))))) (vr 4)) (qm (qp Jt)) jj)
  (qh (qP (i:=5) sc_law.nd rfl (aB rfl) (qS (jk rfl) (ql ok_left_out hr (by decide) qO rfl (qc (vr 6) (qc (vr 3) (qc (vr 2) (qc (vr 7) qg))))) (wF (xS rfl) rfl Z.z_tuple wa (jC (N:=["_law_at_here", "_law_one"]) (nt:=1) (cap:=[6]) rfl (vf (names:=(qf VC).names) rfl (by decide +kernel)) (jG (names:=(qf VC).names) (N:=qaA) rfl rfl (by decide +kernel)) (qW rfl (ql ok_left_out hr (by decide) qO rfl (qc (vr 8) (qc (vr 3) (qc (vr 2) (qc (vr 9) qg)))))) (fun fp L s1 H1=>(qu (i:=0) (show aR (["_law_at_here", "_law_one"]:List Str) from by decide +kernel) rfl (aB rfl))) (fun fp L s1 H1=>jg) (fun fp L s1 H1=>(qS (jk rfl) (qG (jB rfl) rfl Z.z_len jy (vr 1)) (vr 0)))))))
  (qh (jK (ja (YI rfl hr.units) (ql ok_left_out hr (by decide) qO rfl (qc (qS (jk rfl) (vr 6) (vr 8)) (qc (vr 3) (qc (vr 2) (qc (qS (jk rfl) (vr 7) (vr 9)) qg))))) (vr 5)) (qm (qp Jt)) jj)
  (qm (qp (yd (yO rfl hr.units) (ql ok_mended hr (by decide) qO rfl (qc (qS (jk rfl) (vr 6) (vr 8)) (qc (vr 3) (qc (vr 2) (qc (qS (jk rfl) (vr 7) (vr 9)) qg))))) (qS (jk rfl) (ql ok_mended hr (by decide) qO rfl (qc (vr 6) (qc (vr 3) (qc (vr 2) (qc (vr 7) qg))))) (ql ok_mended hr (by decide) qO rfl (qc (vr 8) (qc (vr 3) (qc (vr 2) (qc (vr 9) qg))))))))))))))))))) fun _=>.inr rfl
end
end Kx
namespace Kx
open PySem PySem.Spec L2 L2.D2
variable {α:Type}
theorem vD (xs:List α) (k:Nat):atI xs (k:Int)=xs[k]?:=by
 unfold atI ixN
 rw [if_pos (by omega)]
 by_cases h:k < xs.length
 ·rw [if_pos (by omega)]
  simp
 ·rw [if_neg (by omega),bZ (by omega)]
  rfl
theorem qeI {xs:List α} {i:Int} (h0:0<=i) (h1:i < xs.length):∃ d,atI xs i=some d/\d∈xs:=by
 obtain ⟨k,rfl⟩:=dB h0
 have hk:k < xs.length:=by omega
 exact ⟨xs[k],by rw [vD,af hk],bq hk⟩
theorem big:2000<=sizeLine:=by rw [sizeLine_eq]; decide
abbrev scr (ns:List Int):D:=.lst (ns.map .int)
theorem qcP (ns:List Int) (k:Nat):∃ i,xk [scr ns,.int k]=.ok (.int i,[.non,.non]):=by
 by_cases h:k < ns.length
 ·refine ⟨ns[k],?_⟩
  refine runD_ap.trans ?_
  simp [vS,qw,jF,ltD,ixD,qv,h,vD]
 ·by_cases h0:ns=[]
  ·subst h0
   have hk:¬((k:Int) < 0):=by omega
   exact ⟨0,by refine runD_ap.trans ?_; simp [vS,qw,jF,ltD,ixD,qv,eqD,eqN,uc,hk]⟩
  ·have hp:0 < ns.length:=List.length_pos_iff.mpr h0
   have hm:k % ns.length < ns.length:=Nat.mod_lt _ hp
   have e:atI (ns.map D.int) ((k:Int) % (ns.length:Int))=some (.int ns[k % ns.length]):=by
    rw [show ((k:Int) % (ns.length:Int))=((k % ns.length:Nat):Int) by simp,vD,aG,af hm]
    rfl
   refine ⟨ns[k % ns.length] * 31+k,?_⟩
   refine runD_ap.trans ?_
   simp [vS,qw,jF,ltD,ixD,qv,eqD,eqN,h,h0,gj,Yl,jJ,uy,hp,e,CMul]
variable {many:Int}
theorem qaC (ns:List Int) (k:Nat) (hm:0 < many):∃ r,0<=r/\r < many/\QG [scr ns,.int k,.int many]=.ok (.int r,[.non,.non,.non]):=by
 obtain ⟨c,hc⟩:=qcP ns k
 have h1:=bX (c * 1103515245+7919 * k+12345) (show (2147483647:Int)≠0 by decide)
 have h2:=bG (c * 1103515245+7919 * k+12345) (show (0:Int) < 2147483647 by decide)
 generalize hd:(c * 1103515245+7919 * (k:Int)+12345) % 2147483647=d at h1 h2
 have c1:L2.D2.qdl d 5:=⟨⟨by omega,by omega⟩,by omega,by omega⟩
 refine ⟨d ^ 5 % 2147483647 % 999983 % many,bX _ (by omega),bG _ hm,?_⟩
 refine runD_ap.trans ?_
 simp [QF,qw,qv,qy,jl,hc,Yl,gj,jJ,qgx,uy,hm,hd,c1,show ∀ j,CMul 7919 j from fun j=>.inl ⟨by omega,by omega⟩,show ∀ i,CMul i 1103515245 from fun i=>.inr ⟨by omega,by omega⟩]
theorem uS (ns:List Int) (town:List D) (hm:0 < many) (ht:town.length < 1000):∃ r,0<=r/\r < many/\vc [scr ns,.lst town,.int many]=.ok (.int r,[.non,.lst (town++[.int 0]),.non]):=by
 obtain ⟨r,h0,h1,h⟩:=qaC ns (town.length+1) hm
 have hl:town.length < sizeLine:=aI (eZ ht (by decide)) big
 refine ⟨r,h0,h1,?_⟩
 simp at h
 refine runD_ap.trans ?_
 simp [Vv,qw,qv,qy,jl,yU,Wq,jF,hl,h]
theorem qcQ (ns:List Int) (town xs:List D) (hx:xs≠[]) (ht:town.length < 1000):∃ d,d∈xs/\QK [scr ns,.lst town,.lst xs]=.ok (d,[.non,.lst (town++[.int 0]),.non]):=by
 have hp:0 < xs.length:=List.length_pos_iff.mpr hx
 obtain ⟨r,h0,h1,h⟩:=uS ns town (many:=(xs.length:Int)) (by omega) ht
 obtain ⟨d,e,hd⟩:=qeI (xs:=xs) h0 h1
 refine ⟨d,hd,?_⟩
 refine runD_ap.trans ?_
 simp [Vy,qw,qv,qy,jl,jF,h,ixD,e]
def az (c:Nat):Prop:=97<=c/\c<=122
def qdp (w:Str):Prop:=1<=w.length/\w.length<=6/\∀ c∈w.cps.toList,az c
theorem xn (x:Str):x.length=x.cps.size:=rfl
theorem Zc (x y:Str):(x++y).cps=x.cps++y.cps:=rfl
def qdq (ls:List Str):Prop:=ls≠[]/\∀ x∈ls,∃ c,az c/\x=⟨#[c]⟩
theorem Zd:∀ cs:List Nat,eT (aP "") (cs.map fun c=>(⟨#[c]⟩:Str))=⟨cs.toArray⟩:=by
 intro cs
 have e:∀ cs:List Nat,Str.join (aP "") (cs.map fun c=>(⟨#[c]⟩:Str))=⟨cs.toArray⟩:=by
  intro cs
  induction cs with
  | nil=>rfl
  | cons c cs ih=>
   cases cs with
   | nil=>rfl
   | cons d ds=>
    show (⟨#[c]⟩:Str)++aP ""++Str.join (aP "") ((d::ds).map fun c=>(⟨#[c]⟩:Str))=_
    rw [ih]
    have:((⟨#[c]⟩:Str)++aP ""++(⟨(d::ds).toArray⟩:Str)).cps=(c::d::ds).toArray:=by
     rw [Zc,Zc]
     have:(aP "").cps=#[]:=by decide +kernel
     rw [this]
     simp
    generalize h:(⟨#[c]⟩:Str)++aP ""++(⟨(d::ds).toArray⟩:Str)=x at this
    obtain ⟨y⟩:=x
    simp only at this
    rw [this]
 unfold eT
 rw [StrLaws.glued_eq_join]
 exact e cs
theorem WU:∀ cs:List Nat,((cs.map fun c=>(⟨#[c]⟩:Str)).map (·.length)).sum=cs.length
 | []=>rfl
 | c::cs=>by
  have ih:=WU cs
  rw [aC,aC,List.sum_cons,ih,ap]
  show 1 + _=_
  omega
theorem yI:∀ ws:List Str,zz (ws.map D.str)=some ws
 | []=>rfl
 | w::ws=>by simp [zz,yI ws]
variable {ls:List Str}
theorem Kk (ns:List Int) (hl:qdq ls):∀ (ds:List D) (town:List D) (k:Option D),town.length+ds.length < 1000 ->
  ∃ (cs:List Nat) (town':List D) (k':Option D),town'.length=town.length+ds.length/\cs.length=ds.length/\(∀ c∈cs,az c/\(⟨#[c]⟩:Str)∈ls) /\
   jt (gNm 0) ftT (qt [.vl,.sl 2,.vl] QK (qd (qe 1) (vd (qd (qe 3) qH)))) ds [k,some (scr ns),some (.lst town),some (.lst (ls.map D.str))]
    = .ok ((cs.map fun c=>(⟨#[c]⟩:Str)).map D.str,[k',some (scr ns),some (.lst town'),some (.lst (ls.map D.str))])
 | [],town,k,_=>⟨[],town,k,by simp,rfl,by simp,rfl⟩
 | d::ds,town,k,ht=>by
  rw [ap] at ht
  obtain ⟨e,he,hp⟩:=qcQ ns town (ls.map D.str) (by simpa using hl.1) (by omega)
  obtain ⟨x,hx,rfl⟩:=aj.mp he
  obtain ⟨c,hc,rfl⟩:=hl.2 x hx
  obtain ⟨cs,town',k',a1,a2,a3,a4⟩:=Kk ns hl ds (town++[.int 0]) (some d) (by rw [ai]; simp; omega)
  refine ⟨c::cs,town',k',?_,by simp [a2],?_,?_⟩
  ·rw [a1,ai,ap]
   simp
   omega
  ·intro y hy
   rcases ac.mp hy with rfl | hy
   ·exact ⟨hc,hx⟩
   ·exact a3 y hy
  ·simp [jt,yS,qy,jl,hp,a4]
theorem qcR (ns:List Int) (town:List D) (hl:qdq ls) (ht:town.length < 900):∃ w town',(qdp w/\∀ c∈w.cps.toList,(⟨#[c]⟩:Str)∈ls)/\town'.length<=town.length+8/\QL [scr ns,.lst town,.lst (ls.map D.str),.int 4]=.ok (.str w,[.non,.lst town',.non,.non]):=by
 obtain ⟨r,r0,r1,hr⟩:=uS ns town (many:=4) (by omega) (by omega)
 have hlen:(xQ 0 (1+r).toNat).length=(1+r).toNat:=by simp [xQ]
 obtain ⟨cs,town',k',a1,a2,a3,a4⟩:=Kk ns hl (xQ 0 (1+r).toNat) (town++[.int 0]) none (by rw [hlen,ai]; simp; omega)
 rw [hlen] at a1 a2
 rw [ai] at a1
 simp at a1
 refine ⟨⟨cs.toArray⟩,town',⟨⟨?_,?_,?_⟩,?_⟩,by omega,?_⟩
 ·show 1<=cs.toArray.size
  simp; omega
 ·show cs.toArray.size<=6
  simp; omega
 ·intro c hc
  exact (a3 c (by simpa using hc)).1
 ·intro c hc
  exact (a3 c (by simpa using hc)).2
 ·refine runD_ap.trans ?_
  have c1:-(2 ^ 62:Int)<=1+r/\1+r < 2 ^ 62:=by omega
  have hb:=big
  have hz:(xQ 0 (1+r).toNat).length<=sizeLine:=by rw [hlen]; omega
  have e0:fC (aP "")=0:=by decide +kernel
  have hs:=WU cs
  have hj:Xv (aP "") (.lst ((cs.map fun c=>(⟨#[c]⟩:Str)).map D.str))=.ok (.str ⟨cs.toArray⟩):=by
   unfold Xv
   simp only [yI,Zd,hs]
   rw [if_pos ⟨by simp [e0]; omega,by show cs.toArray.size<=_; simp; omega⟩]
  simp only [VA,qw,Vg,GZ,ju]
  simp [-bo,qy,jl,hr,kx,jJ,-Int.reducePow,c1,hz,kO,a4,jx,hj,qv]
theorem yJ (w:Str):∀ ws:List Str,gY 7 (.str w) (ws.map D.str)=some (decide (w∈ws))
 | []=>by simp [gY]
 | a::ws=>by
  have ih:=yJ w ws
  simp only [aC,gY,ih]
  simp [eqN,eqS]
  by_cases h:a=w
  ·simp [h]
  ·simp [h,bv h]
def jE (ws:List Str):Prop:=1<=ws.length/\ws.length<=6/\ws.Nodup/\∀ w∈ws,qdp w
def Yk (p q:Int):Prop:=(-3<=p/\p<=2)/\-3<=q/\q<=2
theorem qcS (ns:List Int) (town:List D) (ht:town.length < 900):∃ p q town',Yk p q/\town'.length=town.length+2/\Vx [scr ns,.lst town]=.ok (.tup [.int p,.int q],[.non,.lst town']):=by
 obtain ⟨r,r0,r1,hr⟩:=uS ns town (many:=6) (by omega) (by omega)
 obtain ⟨u,u0,u1,hu⟩:=uS ns (town++[.int 0]) (many:=6) (by omega) (by rw [ai]; simp; omega)
 have hb:=big
 have hz:2<=sizeLine:=by omega
 refine ⟨r - 3,u - 3,town++[.int 0,.int 0],⟨⟨by omega,by omega⟩,by omega,by omega⟩,by simp,?_⟩
 refine runD_ap.trans ?_
 simp only [aV,List.cons_append,dg] at hu
 simp [Vw,qw,qv,qy,jl,hr,hu,UA,uy,hz]
noncomputable def wY (n:Nat) (p:Int):Nat:=(max 0 (min (if 0<=p then p else (n:Int)+p) ((n:Int) - 1))).toNat
noncomputable def Yc (w:Str) (p:Int):Str:=⟨#[(w.cps.toList[wY w.length p]?).getD 0]⟩
variable {w:Str}
theorem xF (hw:qdp w) (p:Int):kS [.str w,.int p]=.ok (.str (Yc w p),[.non,.non]):=by
 have h1:=hw.1
 have hn:(w.cps.toList.length:Int)=w.length:=by simp [xn]
 have key:∀ q:Int,q=(if 0<=p then p else (w.length:Int)+p)->atI w.cps.toList (if 0 < (if (w.length:Int) - 1 < q then (w.length:Int) - 1 else q) then (if (w.length:Int) - 1 < q then (w.length:Int) - 1 else q) else 0)=some ((w.cps.toList[wY w.length p]?).getD 0):=by
  intro q hq
  have e:(if 0 < (if (w.length:Int) - 1 < q then (w.length:Int) - 1 else q) then (if (w.length:Int) - 1 < q then (w.length:Int) - 1 else q) else 0)=(wY w.length p:Int):=by
   unfold wY
   rw [<-hq]
   have:1<=(w.length:Int):=by omega
   generalize (w.length:Int)=n at *
   split <;> split <;> omega
  have hl:wY w.length p < w.cps.toList.length:=by
   have hn':w.cps.toList.length=w.length:=by simp [xn]
   rw [hn']
   unfold wY
   omega
  rw [e,vD,af hl]
  rfl
 refine runD_ap.trans ?_
 by_cases hp:0<=p
 ·have k:=key p (by rw [if_pos hp])
  simp [wj,qw,qv,geD,uy,hp,qfq,qfr,UA,jF,ixD,k,Yc]
 ·have k:=key (w.length+p) (by rw [if_neg hp])
  simp [wj,qw,qv,geD,uy,hp,qfq,qfr,UA,jJ,jF,ixD,k,Yc]
variable {own:List Nat}
theorem gN (ρc:Sl):∀ (cap:List Nat) (n:Nat) (ρ:Sl),(∀ k∈cap,k∉own)->jx own ρc n cap ρ=ρ
 | [],n,ρ,_=>rfl
 | k::cap,n,ρ,h=>by
  unfold jx
  rw [if_neg (h k (ah ..))]
  exact gN ρc cap (n+1) ρ fun x hx=>h x (aa _ hx)
variable {fe:Sl->Out (D×Sl)} {ft:Sl->Out (Bool×Sl)}
theorem qeJ {P:D->Bool} {F:D->D} {caps:Sl}:∀ (ds:List D) (x:Option D),(∀ d∈ds,ft (some d::caps)=.ok (P d,some d::caps))->(∀ d∈ds,P d=true->fe (some d::caps)=.ok (F d,some d::caps))->∃ x',jt (gNm 0) ft fe ds (x::caps)=.ok ((ds.filter P).map F,x'::caps)
 | [],x,_,_=>⟨x,rfl⟩
 | d::ds,x,h,h'=>by
  obtain ⟨x',e⟩:=qeJ ds (some d) (fun d' hd=>h d' (aa _ hd)) fun d' hd=>h' d' (aa _ hd)
  refine ⟨x',?_⟩
  have h1:=h d (ah ..)
  have h2:=h' d (ah ..)
  cases q:P d with
  | true=>simp [jt,yS,h1,q,h2 q,e]
  | false=>simp [jt,yS,h1,q,e]
variable {cap:List Nat} {fi:Sl->Out (List D×Sl)} {ρ ρ1:Sl} {ds:List D}
theorem WV {fe:Sl->Out (D×Sl)} {ft:Sl->Out (Bool×Sl)} (P:D->Bool) (F:D->D) (ho:∀ k∈cap,k∉own) (h:fi ρ=.ok (ds,ρ1)) (hl:ds.length<=sizeLine)
  (ht:∀ d∈ds,ft (some d::cap.map fun k=>(ρ1[k]?).getD none)=.ok (P d,some d::cap.map fun k=>(ρ1[k]?).getD none)) (he:∀ d∈ds,P d=true->fe (some d::cap.map fun k=>(ρ1[k]?).getD none)=.ok (F d,some d::cap.map fun k=>(ρ1[k]?).getD none)) :
  ju own 1 cap fi (gNm 0) ft fe ρ=.ok (.lst ((ds.filter P).map F),ρ1):=by
 obtain ⟨x',e⟩:=qeJ ds none ht he
 unfold ju
 rw [h]
 simp only [vM]
 rw [if_pos hl,show kO 1 cap ρ1=none::cap.map fun k=>(ρ1[k]?).getD none from rfl,e]
 simp only [vM,gN _ _ _ _ ho]
theorem QO (F:D->D) (ho:∀ k∈cap,k∉own) (h:fi ρ=.ok (ds,ρ1)) (hl:ds.length<=sizeLine) (ht:∀ d∈ds,fe (some d::cap.map fun k=>(ρ1[k]?).getD none)=.ok (F d,some d::cap.map fun k=>(ρ1[k]?).getD none)) :
  ju own 1 cap fi (gNm 0) ftT fe ρ=.ok (.lst (ds.map F),ρ1):=by
 have e:=WV (ft:=ftT) (fun _=>true) F ho h hl (fun _ _=>rfl) fun d hd _=>ht d hd
 rw [d8.mpr fun _ _=>rfl] at e
 exact e
theorem uE (F:D->D) (h:fi ρ=.ok (ds,ρ1)) (hl:ds.length<=sizeLine) (ht:∀ d∈ds,fe (some d::cap.map fun k=>(ρ1[k]?).getD none)=.ok (F d,some d::cap.map fun k=>(ρ1[k]?).getD none)) :
  ju [] 1 cap fi (gNm 0) ftT fe ρ=.ok (.lst (ds.map F),ρ1):=QO F (fun _ _=>by simp) h hl ht
noncomputable def qA (ws:List Str) (p q:Int):List (Str×Str):=ws.map fun w=>(Yc w p,Yc w q)
noncomputable def jY (l:List (Str×Str)):List D:=l.map fun x=>.tup [.str x.1,.str x.2]
variable {n:Nat}
theorem jz (h:n<=2000):n<=sizeLine:=bc h big
abbrev Wd (ws:List Str):D:=.tup (ws.map D.str)
abbrev Ld (p q:Int):D:=.tup [.int p,.int q]
variable {G:List D->Out (D×List D)} {ws:List Str} {q:Int}
theorem Yd (hw:jE ws) {p:Int} (hG:∀ w∈ws,G [.str w,.int p]=.ok (.str (Yc w p),[.non,.non])/\G [.str w,.int q]=.ok (.str (Yc w q),[.non,.non])) :
  ju [] 1 [1] (km (qe 0)) (gNm 0) ftT (zm (qd (qt [.vl,.vl] G (qd (qe 0) (qd (d2 ixD (qe 1) (dC (.int 0))) qH))) (qd (qt [.vl,.vl] G (qd (qe 0) (qd (d2 ixD (qe 1) (dC (.int 1))) qH))) qH))) [some (Wd ws),some (Ld p q)]
   = .ok (.lst (jY (qA ws p q)),[some (Wd ws),some (Ld p q)]):=by
 have e:=uE (cap:=[1]) (fi:=km (qe 0)) (ρ:=[some (Wd ws),some (Ld p q)]) (ρ1:=[some (Wd ws),some (Ld p q)]) (ds:=ws.map D.str)
  (fe:=(zm (qd (qt [.vl,.vl] G (qd (qe 0) (qd (d2 ixD (qe 1) (dC (.int 0))) qH))) (qd (qt [.vl,.vl] G (qd (qe 0) (qd (d2 ixD (qe 1) (dC (.int 1))) qH))) qH))))
  (fun d=>match d with | .str w=>.tup [.str (Yc w p),.str (Yc w q)] | d=>d) (by simp [jL]) (by rw [au]; exact jz (by have:=hw.2.1; omega)) (fun d hd=>by
   obtain ⟨w,hm,rfl⟩:=aj.mp hd
   obtain ⟨h1,h2⟩:=hG w hm
   have hz:2<=sizeLine:=jz (by omega)
   simp [qy,jl,ixD,atI,ixN,h1,h2,hz])
 rw [e]
 simp [jY,qA]
def Pl:D->Prop
 | .raw _=>False
 | .xcp _=>False
 | .ins _ _=>False
 | .dct _=>False
 | .at_ _ _=>False
 | _=>True
@[simp] theorem kk1:ke "NoneType" "int"=some false:=by decide +kernel
@[simp] theorem kk2:ke "bool" "int"=some true:=by decide +kernel
@[simp] theorem kk3:ke "int" "int"=some true:=by decide +kernel
@[simp] theorem kk4:ke "str" "int"=some false:=by decide +kernel
@[simp] theorem kk5:ke "tuple" "int"=some false:=by decide +kernel
@[simp] theorem kk6:ke "list" "int"=some false:=by decide +kernel
@[simp] theorem kb1:ke "NoneType" "bool"=some false:=by decide +kernel
@[simp] theorem kb2:ke "bool" "bool"=some true:=by decide +kernel
@[simp] theorem kb3:ke "int" "bool"=some false:=by decide +kernel
@[simp] theorem kb4:ke "str" "bool"=some false:=by decide +kernel
@[simp] theorem kb5:ke "tuple" "bool"=some false:=by decide +kernel
@[simp] theorem kb6:ke "list" "bool"=some false:=by decide +kernel
@[simp] theorem ks1:ke "NoneType" "str"=some false:=by decide +kernel
@[simp] theorem ks2:ke "bool" "str"=some false:=by decide +kernel
@[simp] theorem ks3:ke "int" "str"=some false:=by decide +kernel
@[simp] theorem ks4:ke "str" "str"=some true:=by decide +kernel
@[simp] theorem ks5:ke "tuple" "str"=some false:=by decide +kernel
@[simp] theorem ks6:ke "list" "str"=some false:=by decide +kernel
@[simp] theorem kt1:ke "NoneType" "tuple"=some false:=by decide +kernel
@[simp] theorem kt2:ke "bool" "tuple"=some false:=by decide +kernel
@[simp] theorem kt3:ke "int" "tuple"=some false:=by decide +kernel
@[simp] theorem kt4:ke "str" "tuple"=some false:=by decide +kernel
@[simp] theorem kt5:ke "tuple" "tuple"=some true:=by decide +kernel
@[simp] theorem kt6:ke "list" "tuple"=some false:=by decide +kernel
noncomputable def qcT:D->Bool
 | .tup _=>true
 | _=>false
noncomputable def isInt:D->Bool
 | .int _=>true
 | .bl _=>true
 | _=>false
variable {d:D}
theorem qeK (h:Pl d):gk "tuple" d=.ok (.bl (qcT d)):=by cases d <;> first | exact h.elim | simp [gk,tyN,qcT]
noncomputable def qbg:D->Bool
 | .str x=>decide (x.length=1)&&(!uI x "a"&&!uI "z" x)
 | _=>false
noncomputable def VD (lo hi:Int):D->Bool
 | .int i=>decide (lo<=i)&&decide (i<=hi)
 | _=>false
theorem Kl (h:Pl d):wc [d]=.ok (.bl (qbg d),[.non]):=by
 refine runD_ap.trans ?_
 cases d <;> first
  | exact h.elim
  | (simp [kR,qw,qv,gk,tyN,qbg]; done)
  | skip
 rename_i x
 by_cases h1:x.length=1
 ·have h1':(x.length:Int)=1:=by omega
  cases h2:uI x "a" <;> simp [kR,qw,gk,tyN,jF,eqD,eqN,eqS,leD,qv,qbg,h1,h1',h2]
 ·have h1':¬(x.length:Int)=1:=by omega
  simp [kR,qw,gk,tyN,jF,eqD,eqN,eqS,leD,qv,qbg,h1,h1']
theorem kK (h:Pl d) (lo hi:Int):jD [d,.int lo,.int hi]=.ok (.bl (VD lo hi d),[.non,.non,.non]):=by
 refine runD_ap.trans ?_
 cases d <;> first
  | exact h.elim
  | (simp [vn,qw,qv,gk,tyN,VD,ye]; done)
  | skip
 rename_i i
 by_cases h1:lo<=i <;> simp [vn,qw,gk,tyN,leD,qv,VD,ye,h1]
theorem qeL {c:Nat} (h:az c):qbg (.str ⟨#[c]⟩)=true:=by
 have ha:(aP "a").cps.toList=[97]:=by decide +kernel
 have hz:(aP "z").cps.toList=[122]:=by decide +kernel
 obtain ⟨h1,h2⟩:=h
 have l1:¬([c]:List Nat) < [97]:=by
  rw [List.cons_lt_cons_iff]
  simp
  omega
 have l2:¬([122]:List Nat) < [c]:=by
  rw [List.cons_lt_cons_iff]
  simp
  omega
 have e1:uI ⟨#[c]⟩ (aP "a")=false:=by
  unfold uI
  rw [ha]
  exact decide_eq_false l1
 have e2:uI (aP "z") ⟨#[c]⟩=false:=by
  unfold uI
  rw [hz]
  exact decide_eq_false l2
 simp [qbg,xn,e1,e2]
theorem gO (f:α->Bool):∀ l:List α,xw (l.map fun x=>.bl (f x))=some (l.map f)
 | []=>rfl
 | a::l=>by
  have ih:=gO f l
  simp [xw,ih]
theorem QP (f:α->Bool) (l:List α):GN (.lst (l.map fun x=>.bl (f x)))=.ok (.bl (l.all f)):=by
 simp only [GN,gO]
 simp [List.all_map,Function.comp_def]
theorem Ze (hw:qdp w) (p:Int):∃ c,az c/\Yc w p=⟨#[c]⟩:=by
 have hn:w.cps.toList.length=w.length:=by simp [xn]
 have hl:wY w.length p < w.cps.toList.length:=by
  have:=hw.1
  rw [hn]
  unfold wY
  omega
 refine ⟨w.cps.toList[wY w.length p],hw.2.2 _ (bq hl),?_⟩
 unfold Yc
 rw [af hl]
 rfl
theorem Ye (hw:qdp w):yu [.str w]=.ok (.bl true,[.non]):=by
 refine runD_ap.trans ?_
 have e:=uE (cap:=[]) (fi:=km (qe 0)) (ρ:=[some (.str w)]) (ρ1:=[some (.str w)]) (ds:=JK w) (fe:=qt [.vl] wc (qd (qe 0) qH)) (fun d=>.bl (qbg d)) (by simp [jL]) (by
   have:=hw.2.1
   simp [JK,<-xn]
   exact jz (by omega)) (fun d hd=>by
   obtain ⟨c,hc,rfl⟩:=aj.mp hd
   have h1:=Kl (d:=.str ⟨#[c]⟩) trivial
   simp [qy,jl,h1])
 have ha:(JK w).all qbg=true:=by
  rw [bp]
  intro d hd
  obtain ⟨c,hc,rfl⟩:=aj.mp hd
  exact qeL (hw.2.2 c hc)
 have h1:(1:Int)<=w.length:=by have:=hw.1; omega
 have h6:(w.length:Int)<=6:=by have:=hw.2.1; omega
 simp only [zG,qw,aC,ck,ap,ba,Nat.reduceAdd,et,cL,aZ]
 simp [gk,tyN,ye,jF,leD,h1,h6,e,QP,ha,qv]
theorem zW:∀ (ws ks:List Str),ws.Nodup->(∀ x∈ws,x∉ks)->ws.foldl vF ks=ks++ws
 | [],ks,_,_=>by simp
 | w::ws,ks,hn,hd=>by
  have h1:=aK.mp hn
  rw [d5,show vF ks w=ks++[w] from if_neg (hd w (ah ..)),zW ws (ks++[w]) h1.2 ?_]
  ·simp
  ·intro x hx z
   rcases ak.mp z with z | z
   ·exact hd x (aa _ hx) z
   ·rw [am.mp z] at hx
    exact h1.1 hx
theorem Km (ws:List Str):∀ ks:List Str,ks.Nodup->(ws.foldl vF ks).Nodup/\∀ x,x∈ws.foldl vF ks↔x∈ks\/x∈ws:=by
 induction ws with
 | nil=>intro ks hn; exact ⟨hn,fun x=>by simp⟩
 | cons w ws ih=>
  intro ks hn
  have hn2:(vF ks w).Nodup:=by
   unfold vF
   split
   ·exact hn
   ·rename_i h
    exact cg.mpr ⟨hn,by simp,fun a ha b hb=>by
     rw [am.mp hb]
     exact fun z=>h (z ▸ ha)⟩
  obtain ⟨a,b⟩:=ih (vF ks w) hn2
  refine ⟨a,fun x=>?_⟩
  rw [d5,b x]
  unfold vF
  split
  ·rename_i h
   constructor
   ·rintro (q | q)
    ·exact .inl q
    ·exact .inr (aa _ q)
   ·rintro (q | q)
    ·exact .inl q
    ·rcases ac.mp q with rfl | q
     ·exact .inl h
     ·exact .inr q
  ·simp [ak,or_assoc]
theorem VE (hw:jE ws):xa [.tup (ws.map D.str)]=.ok (.bl true,[.non]):=by
 refine runD_ap.trans ?_
 have e:=uE (cap:=[]) (fi:=km (qe 0)) (ρ:=[some (.tup (ws.map D.str))]) (ρ1:=[some (.tup (ws.map D.str))]) (ds:=ws.map D.str) (fe:=qt [.vl] yu (qd (qe 0) qH)) (fun d=>.bl true) (by simp [jL]) (by
   rw [au]
   exact jz (by have:=hw.2.1; omega)) (fun d hd=>by
   obtain ⟨w,hm,rfl⟩:=aj.mp hd
   have h1:=Ye (hw.2.2.2 w hm)
   simp [qy,jl,h1])
 have h1:(1:Int)<=ws.length:=by have:=hw.1; omega
 have h6:(ws.length:Int)<=6:=by have:=hw.2.1; omega
 have hf:ws.foldl vF []=ws:=by rw [zW ws [] hw.2.2.1 (by simp)]; simp
 have h4:ws.length < 4000:=by omega
 have ha:=QP (fun _:D=>true) (ws.map D.str)
 simp only [yZ,qw,aC,ck,ap,ba,Nat.reduceAdd,et,cL,aZ]
 simp [-bo,gk,tyN,ye,jF,leD,h1,h6,e,ha,qv,Qh,zA,yI,hf,h4,eqD,eqN,eqS]
theorem gy (hw:jE ws):wf [.tup (ws.map D.str)]=.ok (.non,[.non]):=by
 refine runD_ap.trans ?_
 have h:=VE hw
 simp [we,qw,qv,qy,jl,h,ye]
theorem Yg {p:Int} (hl:Yk p q):zK [.tup [.int p,.int q]]=.ok (.bl true,[.non]):=by
 refine runD_ap.trans ?_
 have e:=uE (cap:=[]) (fi:=km (qe 0)) (ρ:=[some (.tup [.int p,.int q])]) (ρ1:=[some (.tup [.int p,.int q])]) (ds:=[.int p,.int q]) (fe:=qt [.vl,.vl,.vl] jD (qd (qe 0) (qd (dC (.int (-3))) (qd (dC (.int 2)) qH)))) (fun d=>.bl (VD (-3) 2 d)) (by simp [jL]) (jz (by simp)) (fun d hd=>by
   have hd:d=.int p\/d=.int q:=by simpa using hd
   have h1:=kK (d:=.int p) trivial (-3) 2
   have h2:=kK (d:=.int q) trivial (-3) 2
   rcases hd with rfl | rfl
   ·simp [qy,jl,h1]
   ·simp [qy,jl,h2])
 have b1:VD (-3) 2 (.int p)=true:=by simp [VD]; exact hl.1
 have b2:VD (-3) 2 (.int q)=true:=by simp [VD]; exact hl.2
 simp only [zJ,qw,aC,ck,ap,ba,Nat.reduceAdd,et,cL,aZ]
 simp [gk,tyN,ye,jF,neD,eqN,eqS,e,GN,xw,b1,b2,qv]
theorem QQ {p:Int} (hl:Yk p q):wJ [.tup [.int p,.int q]]=.ok (.non,[.non]):=by
 refine runD_ap.trans ?_
 have h:=Yg hl
 simp [wI,qw,qv,qy,jl,h,ye]
theorem qaD (hw:jE ws) {p:Int} (hl:Yk p q):xc [Wd ws,Ld p q]=.ok (.lst (jY (qA ws p q)),[.non,.non]):=by
 refine runD_ap.trans ?_
 have e:=Yd (G:=kS) hw (p:=p) (q:=q) fun w hm=>⟨xF (hw.2.2.2 w hm) p,xF (hw.2.2.2 w hm) q⟩
 have c1:=gy hw
 have c2:=QQ hl
 simp only [Vo,qw,aC,ck,ap,ba,Nat.reduceAdd,et,cL,aZ]
 simp [qy,jl,c1,c2,e,qv]
noncomputable def LS (l:List (Str×Str)):List Str:=kQ ((l.map (·.1)++l.map (·.2)).foldl vF [])
variable {x:Str}
theorem mem_LS {l:List (Str×Str)}:x∈LS l↔∃ p∈l,x=p.1\/x=p.2:=by
 unfold LS
 rw [(qX _).mem_iff,(Km _ [] dI).2]
 simp only [aJ,false_or,ak,aj]
 constructor
 ·rintro (⟨p,hp,rfl⟩ | ⟨p,hp,rfl⟩)
  ·exact ⟨p,hp,.inl rfl⟩
  ·exact ⟨p,hp,.inr rfl⟩
 ·rintro ⟨p,hp,rfl | rfl⟩
  ·exact .inl ⟨p,hp,rfl⟩
  ·exact .inr ⟨p,hp,rfl⟩
theorem QR {l:List (Str×Str)} (hl:l.length<=20):vx [.lst (jY l)]=.ok (.lst ((LS l).map D.str),[.non]):=by
 refine runD_ap.trans ?_
 have hz:(jY l).length<=sizeLine:=by
  unfold jY
  rw [au]
  exact jz (by omega)
 have e1:=uE (cap:=[]) (fi:=km (qe 0)) (ρ:=[some (.lst (jY l))]) (ρ1:=[some (.lst (jY l))]) (ds:=jY l) (fe:=d2 ixD (qe 0) (dC (.int 0))) (fun d=>match d with | .tup [a,b]=>a | d=>d) (by simp [jL]) hz (fun d hd=>by
   obtain ⟨x,hx,rfl⟩:=aj.mp hd
   simp [ixD,atI,ixN])
 have e2:=uE (cap:=[]) (fi:=km (qe 0)) (ρ:=[some (.lst (jY l))]) (ρ1:=[some (.lst (jY l))]) (ds:=jY l) (fe:=d2 ixD (qe 0) (dC (.int 1))) (fun d=>match d with | .tup [a,b]=>b | d=>d) (by simp [jL]) hz (fun d hd=>by
   obtain ⟨x,hx,rfl⟩:=aj.mp hd
   simp [ixD,atI,ixN])
 have f1:(jY l).map (fun d=>match d with | .tup [a,b]=>a | d=>d)=(l.map (·.1)).map D.str:=by simp [jY]
 have f2:(jY l).map (fun d=>match d with | .tup [a,b]=>b | d=>d)=(l.map (·.2)).map D.str:=by simp [jY]
 rw [f1] at e1
 rw [f2] at e2
 have hs:l.length+l.length<=sizeLine:=jz (by omega)
 have h64:l.length+l.length < 64:=by omega
 simp only [wR,qw,aC,ck,ap,ba,Nat.reduceAdd,et,cL,aZ,Vg,GZ,qgm,e1,e2,vM]
 simp only [jJ,au,if_pos hs,qgh,vM,<-bW,xU,zA,yI,ai,if_pos h64]
 simp [qv,LS]
variable {a:D}
theorem at0 {l:List D}:atI (a::l) 0=some a:=by
 have:=vD (a::l) 0
 simpa using this
variable {b:D}
theorem at1 {l:List D}:atI (a::b::l) 1=some b:=by
 have:=vD (a::b::l) 1
 simpa using this
noncomputable def kh (l:List (Str×Int)):List Str:=l.map (·.1)
noncomputable def bk (l:List (Str×Int)):List (Key×D):=l.map fun x=>(.inr x.1,.int x.2)
noncomputable def jo (l:List (Str×Int)) (x:Str):Int:=((l.find? fun y=>decide (y.1=x)).map (·.2)).getD 0
theorem xo:∀ {l:List (Str×Int)} {x:Str},x∈kh l->(x,jo l x)∈l/\(bk l).find? (fun kv=>decide (kv.1=bz x))=some (.inr x,.int (jo l x))
 | [],x,h=>by cases h
 | a::l,x,h=>by
  by_cases e:a.1=x
  ·have hv:jo (a::l) x=a.2:=by simp [jo,e]
   rw [hv]
   refine ⟨?_,?_⟩
   ·rw [<-e]
    exact ah ..
   ·simp [bk,e]
  ·have hx:x∈kh l:=by
    rcases ac.mp (show x∈a.1::kh l from h) with z | z
    ·exact absurd z.symm e
    ·exact z
   obtain ⟨h1,h2⟩:=xo hx
   have hv:jo (a::l) x=jo l x:=by simp [jo,e]
   rw [hv]
   refine ⟨aa _ h1,?_⟩
   rw [<-h2]
   simp [bk,e]
theorem QS (h:Pl d):wL [d]=if VD 1 99 d=true then .ok (.non,[.non]) else .exc "NoRoom" [some .non]:=by
 refine runD_ap.trans ?_
 have h1:=kK h 1 99
 have hz:1<=sizeLine:=jz (by omega)
 cases e:VD 1 99 d <;> simp [wK,qw,qv,qy,jl,h1,e,ye,yT]
theorem qB {ms:List PM} {f g:Sl->Out (Fl×Sl)} (h:f ρ=.ok (.nx,ρ1)):UM ms (ji f g ρ)=UM ms (g ρ1):=by
 rw [Vf,h]
 rfl
theorem qbh (hw:jE ws) (p q:Int):(LS (qA ws p q)).length<=12:=by
 have hs:(qA ws p q).length<=6:=by simp [qA]; exact hw.2.1
 unfold LS
 rw [(qX _).length_eq]
 have:=yp ((qA ws p q).map (·.1)++(qA ws p q).map (·.2)) []
 simp only [ai,au,ba] at this
 omega
theorem qgy (hw:jE ws) (p q:Int):∀ x∈LS (qA ws p q),∃ c,az c/\x=⟨#[c]⟩:=fun x hx=>by
 obtain ⟨y,hy,h⟩:=mem_LS.mp hx
 obtain ⟨w,hm,rfl⟩:=aj.mp hy
 rcases h with rfl | rfl
 ·exact Ze (hw.2.2.2 w hm) p
 ·exact Ze (hw.2.2.2 w hm) q
abbrev Pr:=Str×Str
abbrev Wk:=List Nat
noncomputable def inL (l:Wk):List D:=l.map fun (k:Nat)=>.int (k:Nat)
abbrev lD (l:Wk):D:=.lst (inL l)
abbrev nD (ns:List Int):D:=.tup (ns.map D.int)
abbrev pD (p:Pr):D:=.tup [.str p.1,.str p.2]
noncomputable def nI (ns:List Int) (k:Nat):Int:=(ns[k]?).getD 0
variable {ns:List Int}
theorem qbi {k:Nat} (h:k < ns.length):ixD (nD ns) (.int (k:Nat))=.ok (.int (nI ns k)):=by
 unfold ixD nI
 simp only []
 rw [vD,aG,af h]
 rfl
noncomputable def qM (ns:List Int) (t:Int) (l:Wk):Int:=l.foldl (fun a k=>nI ns k - a) t
def qcU (nd:D) (ns:List Int):Prop:=∀ k:Nat,k < ns.length->ixD nd (.int (k:Nat))=.ok (.int (nI ns k))
theorem qbj (ns:List Int):qcU (nD ns) ns:=fun _ h=>qbi h
theorem WW (ns:List Int):qcU (.lst (ns.map D.int)) ns:=fun k h=>by
 unfold ixD nI
 simp only []
 rw [vD,aG,af h]
 rfl
theorem gP {nd:D} {ns:List Int} (hnd:qcU nd ns) {a s:Option D}:∀ (l:Wk) (t:Int) (x:Option D),(∀ k∈l,k < ns.length)->∃ x',wz (gNm 4) (kb 3 (d2 UA (d2 ixD (qe 1) (qe 4)) (qe 3))) (inL l) [a,some nd,s,some (.int t),x]=.ok (.nx,[a,some nd,s,some (.int (qM ns t l)),x'])
 | [],t,x,_=>⟨x,rfl⟩
 | k::l,t,x,h=>by
  have hk:=hnd k (h k (ah ..))
  obtain ⟨x',e⟩:=gP hnd (a:=a) (s:=s) l (nI ns k - t) (some (.int (k:Nat))) fun j hj=>h j (aa _ hj)
  refine ⟨x',?_⟩
  have e0:qM ns t (k::l)=qM ns (nI ns k - t) l:=rfl
  rw [e0,<-e]
  simp [inL,wz,hk,UA,uy]
variable {l:Wk} {nd:D}
theorem zX (hnd:qcU nd ns) (h:∀ k∈l,k < ns.length) (t:Int):ui [lD l,nd,.int t]=.ok (.int (qM ns t l),[.non,.non,.non]):=by
 obtain ⟨x',e⟩:=gP hnd (a:=some (lD l)) (s:=some (.int t)) l t none h
 refine runD_ap.trans ?_
 unfold xg
 rw [show qw xf [lD l,nd,.int t]=[some (lD l),some nd,some (.int t),none,none] from rfl]
 refine (qB (ρ1:=[some (lD l),some nd,some (.int t),some (.int t),none]) (by simp)).trans ?_
 refine (qB (ρ1:=[some (lD l),some nd,some (.int t),some (.int (qM ns t l)),x']) (by rw [vG]; exact e)).trans ?_
 simp [qv]
noncomputable def odd (l:Wk):Bool:=decide (l.length % 2=1)
theorem zY (l:Wk):wk [lD l]=.ok (.bl (odd l),[.non]):=by
 refine runD_ap.trans ?_
 have h:((inL l).length:Int) % 2=((l.length % 2:Nat):Int):=by simp [inL]
 by_cases q:l.length % 2=1
 ·simp [xW,qw,jF,gj,uy,eqD,eqN,eqS,qv,h,odd,q]
 ·have q':¬((l.length % 2:Nat):Int)=1:=by omega
  simp [xW,qw,jF,gj,uy,eqD,eqN,eqS,qv,h,odd,q,q']
  omega
noncomputable def Yh (l:Wk) (r:Int) (ns:List Int):Bool:=if odd l=true then decide (r % 2=0)&&decide (qM ns 0 l % 2=1) else !decide (qM ns 0 l % r=0)
variable {r:Int}
theorem qcV (hnd:qcU nd ns) (h:∀ k∈l,k < ns.length) (hr:1<=r):WM [lD l,.int r,nd]=.ok (.bl (Yh l r ns),[.non,.non,.non]):=by
 have h1:=zX hnd h 0
 have h2:=zY l
 have hr':0 < r:=by omega
 refine runD_ap.trans ?_
 unfold Yh
 generalize qM ns 0 l=t at h1
 cases q:odd l with
 | true=>
  rw [q] at h2
  by_cases e1:r % 2=0 <;> simp [WL,qw,qy,jl,h1,h2,ye,gj,uy,eqD,eqN,eqS,qv,e1] <;> rfl
 | false=>
  rw [q] at h2
  simp [WL,qw,qy,jl,h1,h2,ye,gj,uy,neD,eqN,eqS,qv,hr']
  rfl
abbrev Wy:=List (Str×Str×Wk)
noncomputable def wD (W:Wy):List (Key×D):=W.map fun e=>(.inr e.1,.tup [.str e.2.1,lD e.2.2])
noncomputable def kW (W:Wy):List Str:=W.map (·.1)
theorem qbk (W:Wy) (x:Str):GR (wD W) (.inr x)=decide (x∈kW W):=by
 unfold GR wD kW
 induction W with
 | nil=>rfl
 | cons e W ih=>
  rw [aC,cF,ih]
  by_cases h:e.1=x
  ·subst h; simp
  ·have h2:¬(bz e.1:Key)=bz x:=fun z=>h (bz.inj z)
   have h3:¬x=e.1:=fun z=>h z.symm
   simp [h2,h3]
variable {W:Wy}
theorem qbl {r:Str} (h:x∉kW W):qa7 (wD W) (.inr x) (.tup [.str r,lD l])=wD (W++[(x,r,l)]):=by
 unfold qa7
 have h1:((wD W).any fun p=>decide (p.1=(bz x:Key)))=false:=by
  have:=qbk W x
  unfold GR at this
  rw [this]
  exact decide_eq_false h
 rw [h1,if_neg bf]
 unfold wD
 rw [bW]
 rfl
theorem qcW:∀ {W:Wy} {e:Str×Str×Wk},(kW W).Nodup->e∈W->ixD (.dct (wD W)) (.str e.1)=.ok (.tup [.str e.2.1,lD e.2.2])
 | [],e,_,h=>by cases h
 | a::W,e,hn,h=>by
  have hn2:=aK.mp (show (a.1::kW W).Nodup from hn)
  rcases ac.mp h with rfl | h
  ·simp [ixD,wD]
  ·have hne:a.1≠e.1:=fun z=>hn2.1 (by rw [z]; exact aj.mpr ⟨e,h,rfl⟩)
   have ih:=qcW hn2.2 h
   unfold ixD at ih ⊢
   simp only [wD,aC] at ih ⊢
   have h2:¬(bz a.1:Key)=bz e.1:=fun z=>hne (bz.inj z)
   rw [bw (by simpa using h2)]
   exact ih
inductive Path (seen:List Pr) (r:Str):Wk->Str->Prop
 | nil:Path seen r [] r
 | snoc {l:Wk} {x y:Str} {k:Nat} {p:Pr}:Path seen r l x->seen[k]?=some p->(p=(x,y)\/p=(y,x))->Path seen r (l++[k]) y
variable {seen:List Pr}
theorem Path.lt {r:Str} (h:Path seen r l x):∀ k∈l,k < seen.length:=by
 induction h with
 | nil=>simp
 | snoc _ e _ ih=>
  intro k hk
  rcases ak.mp hk with hk | hk
  ·exact ih k hk
  ·rw [am.mp hk]
   exact (aA.mp e).1
structure WI (seen:List Pr) (W:Wy):Prop where
 nd:(kW W).Nodup
 sub:∀ x∈kW W,x∈LS seen
 path:∀ e∈W,Path seen e.2.1 e.2.2 e.1
 len:∀ e∈W,e.2.2.length < W.length
theorem vT (W V:Wy):kW (W++V)=kW W++kW V:=by simp [kW]
theorem WI.add (h:WI seen W) {r:Str} (hx:x∉kW W) (hm:x∈LS seen) (hp:Path seen r l x) (hl:l.length<=W.length):WI seen (W++[(x,r,l)]) where
 nd:=by
  rw [vT]
  refine cg.mpr ⟨h.nd,by simp [kW],fun a ha b hb=>?_⟩
  rw [show kW [(x,r,l)]=[x] from rfl] at hb
  rw [am.mp hb]
  exact fun z=>hx (z ▸ ha)
 sub:=fun y hy=>by
  rw [vT] at hy
  rcases ak.mp hy with hy | hy
  ·exact h.sub y hy
  ·rw [show y=x from am.mp hy]; exact hm
 path:=fun e he=>by
  rcases ak.mp he with he | he
  ·exact h.path e he
  ·rw [am.mp he]; exact hp
 len:=fun e he=>by
  rw [ai]
  rcases ak.mp he with he | he
  ·have:=h.len e he; simp; omega
  ·rw [am.mp he]; simp; omega
theorem VF:∀ {a b:List Str},a.Nodup->(∀ x∈a,x∈b)->a.length<=b.length
 | [],b,_,_=>bB _
 | x::a,b,hn,h=>by
  have hn2:=aK.mp hn
  have hx:=h x (ah ..)
  have ih:=VF (b:=b.erase x) hn2.2 fun y hy=>(List.mem_erase_of_ne (fun z=>hn2.1 (by rw [<-z]; exact hy))).mpr (h y (aa _ hy))
  rw [List.length_erase_of_mem hx] at ih
  have:=cm hx
  rw [ap]
  omega
theorem WI.le (h:WI seen W):W.length<=(LS seen).length:=by
 have:=VF h.nd h.sub
 simpa [kW] using this
noncomputable def oth (p:Pr) (x:Str):Str:=if x=p.1 then p.2 else p.1
theorem qaE (p:Pr) (x:Str):ko [pD p,.str x]=.ok (.str (oth p x),[.non,.non]):=by
 refine runD_ap.trans ?_
 unfold oth
 by_cases h:x=p.1 <;> simp [vH,qw,qv,ixD,at0,at1,eqD,eqN,eqS,h]
theorem qcX (p:Pr) (x:Str):inA (.str x) (pD p)=.ok (.bl (decide (x=p.1\/x=p.2))):=by
 have h:=yJ x [p.1,p.2]
 simp only [aC,ck] at h
 show (inD (.str x) (pD p)).bind (fun b=>Out.ok (D.bl b))=_
 unfold inD
 simp only [h]
 simp
theorem WX (W:Wy) (x:Str):xT (.str x) (.dct (wD W))=.ok (.bl (!decide (x∈kW W))):=by
 unfold xT
 simp only [KC]
 rw [qbk]
variable {p:Pr}
theorem qeM (hp:p∈seen) (x:Str):oth p x∈LS seen:=by
 rw [mem_LS]
 refine ⟨p,hp,?_⟩
 unfold oth
 split
 ·exact .inr rfl
 ·exact .inl rfl
abbrev spB:Sl->Out (Fl×Sl):=(ji (kb 7 (qt [.vl,.vl] ko (qd (qe 6) (qd (qe 4) qH))))
  (sIf (qca (je (d2 inA (qe 4) (qe 6))) (je (d2 xT (qe 7) (qe 2)))) (ji (Qk 2 (zm (qd (qe 1) (qd (d2 jJ (d2 ixD (d2O 2 ixD (qe 4)) (dC (.int 1))) (xO (qd (qe 5) qH))) qH))) (qe 7))
  (wC (KZ 3 Wq (qe 7)))) ka))
theorem qbm {f g:Sl->Out (Fl×Sl)} (h:f ρ=.ok (.nx,ρ1)):ji f g ρ=g ρ1:=by
 rw [Vf,h]
 rfl
variable {fb:Sl->Out (Fl×Sl)} {ρ2:Sl}
theorem uF {g:D->Sl->Out Sl} (h1:g d ρ=.ok ρ1) (h2:fb ρ1=.ok (.nx,ρ2)):wz g fb (d::ds) ρ=wz g fb ds ρ2:=by
 rw [wz,h1]
 simp only [Out.plain,vM]
 rw [h2]
 rfl
theorem qeN {g:D->Sl->Out Sl} {v:D} (h1:g d ρ=.ok ρ1) (h2:fb ρ1=.ok (.rt v,ρ2)):wz g fb (d::ds) ρ=.ok (.rt v,ρ2):=by
 rw [wz,h1]
 simp only [Out.plain,vM]
 rw [h2]
 rfl
variable {root y:Str} {ly:Wk}
theorem qcY (hs:(LS seen).length<=20) (hW:WI seen W) (hy:(y,root,ly)∈W) {k:Nat} (hk:seen[k]?=some p) (Q:List Str) (hQ:Q.length<=1000) (sd x7:Option D) :
  ∃ (M:Wy) (rch:Option D),WI seen (W++M)/\(∀ e∈M,e.2.1=root)/\M.length<=1/\((y=p.1\/y=p.2)->oth p y∈kW (W++M)) /\
   spB [sd,some (.str root),some (.dct (wD W)),some (.lst (Q.map D.str)),some (.str y),some (.int (k:Nat)),some (pD p),x7]=.ok (.nx,[sd,some (.str root),some (.dct (wD (W++M))),some (.lst ((Q++kW M).map D.str)),some (.str y),some (.int (k:Nat)),some (pD p),rch]):=by
 have h1:=qaE p y
 have h2:=qcX p y
 have h3:=WX W (oth p y)
 have hle:=hW.le
 have hbg:=big
 have hll:=hW.len _ hy
 have hpm:p∈seen:=aU hk
 by_cases q:(y=p.1\/y=p.2)/\oth p y∉kW W
 ·refine ⟨[(oth p y,root,ly++[k])],some (.str (oth p y)),hW.add q.2 (qeM hpm y) (.snoc (hW.path _ hy) hk ?_) (by rw [ai]; simp; simp at hll; omega),by simp,by simp,fun _=>by rw [vT]; exact ak.mpr (.inr (by simp [kW])),?_⟩
  ·obtain ⟨p1,p2⟩:=p
   unfold oth
   rcases q.1 with e | e
   ·have e:y=p1:=e
    subst e
    simp
   ·have e:y=p2:=e
    subst e
    by_cases z:y=p1
    ·subst z; simp
    ·simp [z]
  ·unfold spB
   rw [qbm (ρ1:=[sd,some (.str root),some (.dct (wD W)),some (.lst (Q.map D.str)),some (.str y),some (.int (k:Nat)),some (pD p),some (.str (oth p y))]) (by simp [qy,jl,h1])]
   have hb1:decide (y=p.1\/y=p.2)=true:=decide_eq_true q.1
   have hb2:(!decide (oth p y∈kW W))=true:=by rw [decide_eq_false q.2]; rfl
   rw [hb1] at h2
   rw [hb2] at h3
   have hix:=qcW hW.nd hy
   simp only [] at hix
   have hix2:ixD (.tup [.str root,lD ly]) (.int 1)=.ok (lD ly):=by simp [ixD,at1]
   have hput:=qbl (W:=W) (x:=oth p y) (r:=root) (l:=ly++[k]) q.2
   have hl:(inL ly).length+1<=sizeLine:=by simp [inL]; simp at hll; omega
   have z1:1<=sizeLine:=by omega
   have z2:2<=sizeLine:=by omega
   have hwl:(wD W).length < sizeLine:=by simp [wD]; omega
   have hql:Q.length < sizeLine:=by omega
   have hin:inL ly++[.int (k:Nat)]=inL (ly++[k]):=by simp [inL]
   rw [qev,show qca (je (d2 inA (qe 4) (qe 6))) (je (d2 xT (qe 7) (qe 2))) [sd,some (.str root),some (.dct (wD W)),some (.lst (Q.map D.str)),some (.str y),some (.int (k:Nat)),some (pD p),some (.str (oth p y))]=.ok (true,[sd,some (.str root),some (.dct (wD W)),some (.lst (Q.map D.str)),some (.str y),some (.int (k:Nat)),some (pD p),some (.str (oth p y))]) by simp [h2,h3]]
   simp only [vM,if_true]
   rw [qbm (ρ1:=[sd,some (.str root),some (.dct (wD (W++[(oth p y,root,ly++[k])]))),some (.lst (Q.map D.str)),some (.str y),some (.int (k:Nat)),some (pD p),some (.str (oth p y))]) (by
    simp [Qk,d2O,hix,hix2,jJ,z1,z2,hl,hin,KC,hwl,hput])]
   simp [yU,Wq,hql,kW]
 ·refine ⟨[],some (.str (oth p y)),by simpa using hW,by simp,by simp,fun z=>?_,?_⟩
  ·rw [aZ]
   exact bY fun w=>q ⟨z,w⟩
  ·unfold spB
   rw [qbm (ρ1:=[sd,some (.str root),some (.dct (wD W)),some (.lst (Q.map D.str)),some (.str y),some (.int (k:Nat)),some (pD p),some (.str (oth p y))]) (by simp [qy,jl,h1])]
   by_cases z:y=p.1\/y=p.2
   ·have hb1:decide (y=p.1\/y=p.2)=true:=decide_eq_true z
    have hm:oth p y∈kW W:=bY fun w=>q ⟨z,w⟩
    have hb2:(!decide (oth p y∈kW W))=false:=by rw [decide_eq_true hm]; rfl
    rw [hb1] at h2
    rw [hb2] at h3
    simp [h2,h3,kW]
   ·have hb1:decide (y=p.1\/y=p.2)=false:=decide_eq_false z
    rw [hb1] at h2
    simp [h2,kW]
noncomputable def en (k0:Nat) (rest:List Pr):List D:=(rest.zipIdx k0).map fun p=>.tup [.int (p.2:Nat),pD p.1]
theorem qeO (seen:List Pr):uN (jY seen)=en 0 seen:=by
 unfold uN en jY
 rw [List.zipIdx_map,bo]
 rfl
theorem qbn (hs:(LS seen).length<=20) (sd:Option D):∀ (rest:List Pr) (k0:Nat) (W:Wy) (Q:List Str) (x5 x6 x7:Option D),seen.drop k0=rest->WI seen W->(y,root,ly)∈W->Q.length+rest.length<=500 ->
  ∃ (M:Wy) (y5 y6 y7:Option D),WI seen (W++M)/\(∀ e∈M,e.2.1=root)/\(∀ p∈rest,(y=p.1\/y=p.2)->oth p y∈kW (W++M))/\M.length<=rest.length /\
   wz (kz 2 (qJ (gNm 5) (qJ (gNm 6) ky))) spB (en k0 rest) [sd,some (.str root),some (.dct (wD W)),some (.lst (Q.map D.str)),some (.str y),x5,x6,x7]=.ok (.nx,[sd,some (.str root),some (.dct (wD (W++M))),some (.lst ((Q++kW M).map D.str)),some (.str y),y5,y6,y7])
 | [],k0,W,Q,x5,x6,x7,_,hW,_,_=>⟨[],x5,x6,x7,by simpa using hW,by simp,by simp,by simp,by simp [en,wz,kW]⟩
 | p::rest,k0,W,Q,x5,x6,x7,hd,hW,hy,hQ=>by
  rw [ap] at hQ
  have hk:seen[k0]?=some p:=by
   have:=congrArg List.head? hd
   rw [List.head?_drop] at this
   simpa using this
  have hd2:seen.drop (k0+1)=rest:=by
   have:=congrArg List.tail hd
   rw [List.tail_drop] at this
   simpa using this
  obtain ⟨M1,r1,a1,a2,a3,a4,a5⟩:=qcY hs hW hy hk Q (by omega) sd x7
  have hm1:(kW M1).length<=1:=by simpa [kW] using a3
  obtain ⟨M2,y5,y6,y7,b1,b2,b3,b4,b5⟩:=qbn hs sd rest (k0+1) (W++M1) (Q++kW M1) (some (.int (k0:Nat))) (some (pD p)) r1 hd2 a1 (ak.mpr (.inl hy)) (by rw [ai]; omega)
  refine ⟨M1++M2,y5,y6,y7,by rw [<-aV]; exact b1,fun e he=>?_,fun p' hp' hz=>?_,by rw [ai,ap]; omega,?_⟩
  ·rcases ak.mp he with he | he
   ·exact a2 e he
   ·exact b2 e he
  ·rw [<-aV,vT]
   rcases ac.mp hp' with rfl | hp'
   ·exact ak.mpr (.inl (a4 hz))
   ·have:=b3 p' hp' hz
    rw [vT] at this
    exact this
  ·rw [vT,<-aV,<-aV]
   refine cZ ?_ b5
   have e0:en k0 (p::rest)=.tup [.int (k0:Nat),pD p]::en (k0+1) rest:=by simp [en,eX]
   rw [e0]
   exact uF rfl a5
theorem WY (h1:ft ρ=.ok (true,ρ1)) (h2:fb ρ1=.ok (.nx,ρ2)):jf ft fb (n+1) ρ=jf ft fb n ρ2:=by
 rw [jf,h1]
 simp only [vM,if_true]
 rw [h2]
 rfl
theorem Kn (h1:ft ρ=.ok (false,ρ1)):jf ft fb (n+1) ρ=.ok (.nx,ρ1):=by
 rw [jf,h1]
 rfl
abbrev spC:Sl->Out (Bool×Sl):=je (d2 gtD (d1 jF (qe 3)) (dC (.int 0)))
abbrev spW:Sl->Out (Fl×Sl):=(ji (kb 4 (XC 3)) (KU (UQ (qe 0)) (kz 2 (qJ (gNm 5) (qJ (gNm 6) ky))) spB))
abbrev sD (seen:List Pr):D:=.lst (jY seen)
theorem WZ (hn:seen.length<=10) (hs:(LS seen).length<=20) (root:Str):∀ (n:Nat) (W:Wy) (Q:List Str) (x4 x5 x6 x7:Option D),n<=100->WI seen W->(∀ x∈Q,∃ l,(x,root,l)∈W)->Q.length+((LS seen).length - W.length) < n ->
  ∃ (M:Wy) (y4 y5 y6 y7:Option D),WI seen (W++M)/\(∀ e∈M,e.2.1=root)/\(∀ x,x∈Q\/x∈kW M->∀ p∈seen,(x=p.1\/x=p.2)->oth p x∈kW (W++M)) /\
   jf spC spW n [some (sD seen),some (.str root),some (.dct (wD W)),some (.lst (Q.map D.str)),x4,x5,x6,x7]=.ok (.nx,[some (sD seen),some (.str root),some (.dct (wD (W++M))),some (.lst []),y4,y5,y6,y7])
 | 0,W,Q,x4,x5,x6,x7,_,_,_,h=>absurd h (Nat.not_lt_zero _)
 | n+1,W,[],x4,x5,x6,x7,_,hW,_,_=>⟨[],x4,x5,x6,x7,by simpa using hW,by simp,by simp [kW],by
  rw [aZ]
  exact Kn (by simp [jF,gtD,uy])⟩
 | n+1,W,y::Q,x4,x5,x6,x7,h100,hW,hQ,hm=>by
  obtain ⟨ly,hy⟩:=hQ y (ah ..)
  rw [ap] at hm
  obtain ⟨M1,y5,y6,y7,a1,a2,a3,a4,a5⟩:=qbn hs (some (sD seen)) seen 0 W Q x5 x6 x7 (by simp) hW hy (by omega)
  have hle:=a1.le
  rw [ai] at hle
  obtain ⟨M2,z4,z5,z6,z7,b1,b2,b3,b4⟩:=WZ hn hs root n (W++M1) (Q++kW M1) (some (.str y)) y5 y6 y7 (by omega) a1 (fun x hx=>by
   rcases ak.mp hx with hx | hx
   ·obtain ⟨l,hl⟩:=hQ x (aa _ hx)
    exact ⟨l,ak.mpr (.inl hl)⟩
   ·obtain ⟨e,he,rfl⟩:=aj.mp hx
    refine ⟨e.2.2,ak.mpr (.inr ?_)⟩
    rw [<-a2 e he]
    exact he) (by
   rw [ai,ai,show (kW M1).length=M1.length by simp [kW]]
   omega)
  refine ⟨M1++M2,z4,z5,z6,z7,by rw [<-aV]; exact b1,fun e he=>?_,fun x hx p hp hz=>?_,?_⟩
  ·rcases ak.mp he with he | he
   ·exact a2 e he
   ·exact b2 e he
  ·rw [<-aV]
   by_cases q:x=y
   ·subst q
    rw [vT]
    exact ak.mpr (.inl (a3 p hp hz))
   ·refine b3 x ?_ p hp hz
    rcases hx with hx | hx
    ·rcases ac.mp hx with e | hx
     ·exact absurd e q
     ·exact .inl (ak.mpr (.inl hx))
    ·rw [vT] at hx
     rcases ak.mp hx with hx | hx
     ·exact .inl (ak.mpr (.inr hx))
     ·exact .inr hx
  ·rw [<-aV]
   refine cZ ?_ b4
   refine WY (ρ1:=[some (sD seen),some (.str root),some (.dct (wD W)),some (.lst ((y::Q).map D.str)),x4,x5,x6,x7]) (by
    have:(0:Int) < (Q.length:Int)+1:=by omega
    simp [jF,gtD,uy,this]) ?_
   unfold spW
   rw [qbm (ρ1:=[some (sD seen),some (.str root),some (.dct (wD W)),some (.lst (Q.map D.str)),some (.str y),x5,x6,x7]) (by simp [XC])]
   rw [vG,show UQ (qe 0) [some (sD seen),some (.str root),some (.dct (wD W)),some (.lst (Q.map D.str)),some (.str y),x5,x6,x7]=.ok (uN (jY seen),[some (sD seen),some (.str root),some (.dct (wD W)),some (.lst (Q.map D.str)),some (.str y),x5,x6,x7]) from rfl,vM,qeO]
   exact a5
theorem Zf (hn:seen.length<=6) (hs:(LS seen).length<=12) (hW:WI seen W) (hr:root∉kW W) (hm:root∈LS seen) :
  ∃ M:Wy,WI seen (W++M)/\(∀ e∈M,e.2.1=root)/\(root,root,[])∈M/\(∀ x∈kW M,∀ p∈seen,(x=p.1\/x=p.2)->oth p x∈kW (W++M))/\xY [sD seen,.str root,.dct (wD W)]=.ok (.non,[.non,.non,.dct (wD (W++M))]):=by
 have hW1:=hW.add hr hm (r:=root) (l:=[]) .nil (bB _)
 have hle:=hW1.le
 have hle0:=hW.le
 have hbg:=big
 obtain ⟨M,y4,y5,y6,y7,a1,a2,a3,a4⟩:=WZ (by omega) (by omega) root 20 (W++[(root,root,[])]) [root] none none none none (by omega) hW1 (fun x hx=>⟨[],by rw [am.mp hx]; exact ak.mpr (.inr (am.mpr rfl))⟩) (by simp; omega)
 rw [aV] at a1 a3 a4
 refine ⟨[(root,root,[])]++M,a1,fun e he=>?_,ak.mpr (.inl (am.mpr rfl)),fun x hx p hp hz=>a3 x ?_ p hp hz,?_⟩
 ·rcases ak.mp he with he | he
  ·rw [am.mp he]
  ·exact a2 e he
 ·rw [vT] at hx
  rcases ak.mp hx with hx | hx
  ·exact .inl hx
  ·exact .inr hx
 ·refine runD_ap.trans ?_
  unfold Qz
  rw [show qw Qy [sD seen,.str root,.dct (wD W)]=[some (sD seen),some (.str root),some (.dct (wD W)),none,none,none,none,none] from rfl]
  have hput:=qbl (W:=W) (x:=root) (r:=root) (l:=[]) hr
  rw [show lD []=.lst [] from rfl] at hput
  have z2:2<=sizeLine:=by omega
  have z1:1<=sizeLine:=by omega
  have hwl:(wD W).length < sizeLine:=by simp [wD]; omega
  refine (qB (ρ1:=[some (sD seen),some (.str root),some (.dct (wD (W++[(root,root,[])]))),none,none,none,none,none]) (by simp [Qk,z2,KC,hwl,hput])).trans ?_
  refine (qB (ρ1:=[some (sD seen),some (.str root),some (.dct (wD (W++[(root,root,[])]))),some (.lst [.str root]),none,none,none,none]) (by simp [z1])).trans ?_
  exact (congrArg (UM [.val,.val,.io]) a4).trans rfl
def CI (seen:List Pr) (W:Wy):Prop:=∀ e∈W,∀ p∈seen,(e.1=p.1\/e.1=p.2)->∃ e'∈W,e'.1=oth p e.1/\e'.2.1=e.2.1
def RI (W:Wy):Prop:=∀ e∈W,(e.2.1,e.2.1,[])∈W
theorem qcZ (h:x=p.1\/x=p.2):oth p (oth p x)=x/\(oth p x=p.1\/oth p x=p.2):=by
 obtain ⟨a,b⟩:=p
 unfold oth
 simp only []
 by_cases q:x=a
 ·subst q
  simp only [if_true]
  by_cases q2:b=x
  ·subst q2; simp
  ·simp [q2]
 ·have:x=b:=by rcases h with h | h; exact absurd h q; exact h
  subst this
  simp [q]
theorem zd:∀ {W:Wy},(kW W).Nodup->∀ {e e':Str×Str×Wk},e∈W->e'∈W->e.1=e'.1->e=e'
 | [],_,e,e',h,_,_=>by cases h
 | a::W,hn,e,e',h,h',q=>by
  have hn2:=aK.mp (show (a.1::kW W).Nodup from hn)
  rcases ac.mp h with h1 | h1
  ·rcases ac.mp h' with h2 | h2
   ·rw [h1,h2]
   ·exact absurd (show a.1∈kW W from aj.mpr ⟨e',h2,by rw [<-q,h1]⟩) hn2.1
  ·rcases ac.mp h' with h2 | h2
   ·exact absurd (show a.1∈kW W from aj.mpr ⟨e,h1,by rw [q,h2]⟩) hn2.1
   ·exact zd hn2.2 h1 h2 q
abbrev woB:Sl->Out (Fl×Sl):=(sIf (je (d2 xT (qe 2) (qe 1))) (wC (qt [.vl,.vl,.sl 1] xY (qd (qe 0) (qd (qe 2) (vd qH))))) ka)
theorem zZ (hn:seen.length<=6) (hs:(LS seen).length<=12):∀ (xs:List Str) (W:Wy) (x:Option D),(∀ x∈xs,x∈LS seen)->WI seen W->CI seen W->RI W ->
  ∃ (M:Wy) (x':Option D),WI seen (W++M)/\CI seen (W++M)/\RI (W++M)/\(∀ x∈xs,x∈kW (W++M))/\wz (gNm 2) woB (xs.map D.str) [some (sD seen),some (.dct (wD W)),x]=.ok (.nx,[some (sD seen),some (.dct (wD (W++M))),x'])
 | [],W,x,_,hW,hC,hR=>⟨[],x,by simpa using hW,by simpa using hC,by simpa using hR,by simp,by simp [wz]⟩
 | y::xs,W,x,hx,hW,hC,hR=>by
  have h3:=WX W y
  by_cases q:y∈kW W
  ·obtain ⟨M,x',a1,a2,a3,a4,a5⟩:=zZ hn hs xs W (some (.str y)) (fun z hz=>hx z (aa _ hz)) hW hC hR
   refine ⟨M,x',a1,a2,a3,fun z hz=>?_,?_⟩
   ·rcases ac.mp hz with rfl | hz
    ·rw [vT]; exact ak.mpr (.inl q)
    ·exact a4 z hz
   ·refine cZ (uF (ρ1:=[some (sD seen),some (.dct (wD W)),some (.str y)]) rfl ?_) a5
    rw [decide_eq_true q] at h3
    simp [h3]
  ·obtain ⟨M1,b1,b2,b3,b4,b5⟩:=Zf hn hs hW q (hx y (ah ..))
   have hR1:RI (W++M1):=fun e he=>by
    rcases ak.mp he with he | he
    ·exact ak.mpr (.inl (hR e he))
    ·rw [b2 e he]
     exact ak.mpr (.inr b3)
   have hC1:CI seen (W++M1):=fun e he p hp hz=>by
    rcases ak.mp he with he | he
    ·obtain ⟨e',h1,h2⟩:=hC e he p hp hz
     exact ⟨e',ak.mpr (.inl h1),h2⟩
    ·have hk:=b4 e.1 (aj.mpr ⟨e,he,rfl⟩) p hp hz
     obtain ⟨e',h1,h2⟩:=aj.mp hk
     refine ⟨e',h1,h2,?_⟩
     rcases ak.mp h1 with h1' | h1'
     ·exfalso
      obtain ⟨o1,o2⟩:=qcZ hz
      rw [<-h2] at o1 o2
      obtain ⟨e2,h4,h5,_⟩:=hC e' h1' p hp o2
      rw [o1] at h5
      have:=zd b1.nd (ak.mpr (.inl h4)) (ak.mpr (.inr he)) h5
      subst this
      have hnd:=b1.nd
      rw [vT] at hnd
      exact (cg.mp hnd).2.2 e2.1 (aj.mpr ⟨e2,h4,rfl⟩) e2.1 (aj.mpr ⟨e2,he,rfl⟩) rfl
     ·rw [b2 e' h1',b2 e he]
   obtain ⟨M2,x',a1,a2,a3,a4,a5⟩:=zZ hn hs xs (W++M1) (some (.str y)) (fun z hz=>hx z (aa _ hz)) b1 hC1 hR1
   rw [aV] at a1 a2 a3 a4 a5
   refine ⟨M1++M2,x',a1,a2,a3,fun z hz=>?_,?_⟩
   ·rcases ac.mp hz with rfl | hz
    ·rw [vT,vT]
     exact ak.mpr (.inr (ak.mpr (.inl (aj.mpr ⟨_,b3,rfl⟩))))
    ·exact a4 z hz
   ·refine cZ (uF (ρ1:=[some (sD seen),some (.dct (wD W)),some (.str y)]) rfl ?_) a5
    rw [decide_eq_false q] at h3
    simp [h3,qy,jl,b5]
theorem gQ (hn:seen.length<=6) (hs:(LS seen).length<=12) :
  ∃ W:Wy,WI seen W/\CI seen W/\RI W/\(∀ x∈LS seen,x∈kW W)/\wT [sD seen]=.ok (.dct (wD W),[.non]):=by
 obtain ⟨W,x',a1,a2,a3,a4,a5⟩:=zZ hn hs (LS seen) [] none (fun _ h=>h) ⟨by simp [kW],by simp [kW],by simp,by simp⟩ (fun e he=>by cases he) (fun e he=>by cases he)
 rw [dg] at a1 a2 a3 a4 a5
 refine ⟨W,a1,a2,a3,a4,?_⟩
 have hlo:=QR (l:=seen) (by omega)
 refine runD_ap.trans ?_
 unfold zQ
 rw [show qw zO [sD seen]=[some (sD seen),none,none] from rfl]
 refine (qB (ρ1:=[some (sD seen),some (.dct []),none]) (by simp)).trans ?_
 refine (qB (ρ1:=[some (sD seen),some (.dct (wD W)),x']) (by
  rw [vG,show km (qt [.vl] vx (qd (qe 0) qH)) [some (sD seen),some (.dct []),none]=.ok ((LS seen).map D.str,[some (sD seen),some (.dct []),none]) by simp [qy,jl,hlo,jL],vM]
  exact a5)).trans ?_
 simp [qv]
noncomputable def qT (W:Wy) (x:Str):Str×Wk:=((W.find? fun e=>decide (e.1=x)).map (·.2)).getD (⟨#[]⟩,[])
theorem jr (h:x∈kW W):(x,qT W x)∈W:=by
 unfold qT
 cases q:W.find? fun e=>decide (e.1=x) with
 | none=>
  obtain ⟨e,he,rfl⟩:=aj.mp h
  have:=cR.mp q e he
  simp at this
 | some e=>
  have h1:=bL q
  have h2:e.1=x:=by simpa using fg q
  rw [<-h2]
  exact h1
theorem VG (hn:(kW W).Nodup) (h:x∈kW W):ixD (.dct (wD W)) (.str x)=.ok (.tup [.str (qT W x).1,lD (qT W x).2]):=qcW hn (jr h)
theorem qhc:ixD (.tup [a,b]) (.int 0)=.ok a:=by simp [ixD,at0]
theorem qhd:ixD (.tup [a,b]) (.int 1)=.ok b:=by simp [ixD,at1]
theorem qc0 (a b:Wk):inL a++inL b=inL (a++b):=by simp [inL]
theorem wp (a:Wk):(inL a).length=a.length:=by simp [inL]
theorem qeP (l:Wk):yr (lD l)=.ok (lD l.reverse):=by simp [yr,inL]
theorem Zg {a b:Wk} (h:a.length+b.length<=2000):jJ (lD a) (lD b)=.ok (lD (a++b)):=by
 have hz:(inL a).length+(inL b).length<=sizeLine:=by rw [wp,wp]; exact jz h
 show (if (inL a).length+(inL b).length<=sizeLine then Out.ok (D.lst (inL a++inL b)) else .bad)=_
 rw [if_pos hz,qc0]
abbrev Ci:=Str×Wk
noncomputable def cd (c:Ci):D:=.tup [.str c.1,lD c.2]
noncomputable def cD (C:List Ci):List D:=C.map cd
noncomputable def VH (W:Wy) (p:Pr) (k:Nat):Ci:=((qT W p.1).1,(qT W p.1).2++[k]++(qT W p.2).2.reverse)
noncomputable def CL (W:Wy) (k0:Nat) (rest:List Pr):List Ci:=(rest.zipIdx k0).map fun p=>VH W p.1 p.2
abbrev ciB:Sl->Out (Fl×Sl):=(ji (kb 5 (d1 yr (d2 ixD (d2 ixD (qe 1) (d2 ixD (qe 4) (dC (.int 1)))) (dC (.int 1)))))
  (wC (KZ 2 Wq (zm (qd (d2 ixD (d2 ixD (qe 1) (d2 ixD (qe 4) (dC (.int 0)))) (dC (.int 0))) (qd (d2 jJ (d2 jJ (d2 ixD (d2 ixD (qe 1) (d2 ixD (qe 4) (dC (.int 0)))) (dC (.int 1))) (xO (qd (qe 3) qH))) (qe 5)) qH))))))
theorem qc1 (hs:(LS seen).length<=20) (hW:WI seen W) (h1:p.1∈kW W) (h2:p.2∈kW W) {k:Nat} {acc:List D} (ha:acc.length < 1000) (sd x5:Option D) :
  ∃ y5,ciB [sd,some (.dct (wD W)),some (.lst acc),some (.int (k:Nat)),some (pD p),x5]=.ok (.nx,[sd,some (.dct (wD W)),some (.lst (acc++[cd (VH W p k)])),some (.int (k:Nat)),some (pD p),y5]):=by
 have i1:=VG hW.nd h1
 have i2:=VG hW.nd h2
 have l1:=hW.len _ (jr h1)
 have l2:=hW.len _ (jr h2)
 have hle:=hW.le
 have hbg:=big
 simp only [] at l1 l2
 have z1:1<=sizeLine:=by omega
 have z2:2<=sizeLine:=by omega
 have hal:acc.length < sizeLine:=by omega
 have a1:=Zg (a:=(qT W p.1).2) (b:=[k]) (by simp; omega)
 have a2:=Zg (a:=(qT W p.1).2++[k]) (b:=(qT W p.2).2.reverse) (by simp; omega)
 have a1:jJ (lD (qT W p.1).2) (.lst [.int (k:Nat)])=.ok (lD ((qT W p.1).2++[k])):=a1
 have r2:=qeP (qT W p.2).2
 refine ⟨some (lD (qT W p.2).2.reverse),?_⟩
 unfold ciB VH cd
 rw [qbm (ρ1:=[sd,some (.dct (wD W)),some (.lst acc),some (.int (k:Nat)),some (pD p),some (lD (qT W p.2).2.reverse)]) (by simp [qhd,i2,r2])]
 simp [yU,qhc,qhd,i1,a1,a2,z1,z2,Wq,hal]
theorem Zh (hs:(LS seen).length<=20) (hW:WI seen W) (sd:Option D):∀ (rest:List Pr) (k0:Nat) (acc:List Ci) (x3 x4 x5:Option D),(∀ p∈rest,p.1∈kW W/\p.2∈kW W)->acc.length+rest.length<=500 ->
  ∃ y3 y4 y5,wz (kz 2 (qJ (gNm 3) (qJ (gNm 4) ky))) ciB (en k0 rest) [sd,some (.dct (wD W)),some (.lst (cD acc)),x3,x4,x5]=.ok (.nx,[sd,some (.dct (wD W)),some (.lst (cD (acc++CL W k0 rest))),y3,y4,y5])
 | [],k0,acc,x3,x4,x5,_,_=>⟨x3,x4,x5,by simp [en,CL,wz]⟩
 | p::rest,k0,acc,x3,x4,x5,h,hl=>by
  rw [ap] at hl
  obtain ⟨h1,h2⟩:=h p (ah ..)
  obtain ⟨r5,e⟩:=qc1 hs hW h1 h2 (k:=k0) (acc:=cD acc) (by simp [cD]; omega) sd x5
  obtain ⟨y3,y4,y5,ih⟩:=Zh hs hW sd rest (k0+1) (acc++[VH W p k0]) (some (.int (k0:Nat))) (some (pD p)) r5 (fun q hq=>h q (aa _ hq)) (by rw [ai]; simp; omega)
  refine ⟨y3,y4,y5,?_⟩
  have e0:en k0 (p::rest)=.tup [.int (k0:Nat),pD p]::en (k0+1) rest:=by simp [en,eX]
  have e1:acc++CL W k0 (p::rest)=(acc++[VH W p k0])++CL W (k0+1) rest:=by simp [CL,eX]
  rw [e0,e1]
  refine cZ (uF rfl e) ?_
  rw [show cD acc++[cd (VH W p k0)]=cD (acc++[VH W p k0]) by simp [cD]]
  exact ih
theorem vU (ha:∀ x∈LS seen,x∈kW W):∀ p∈seen,p.1∈kW W/\p.2∈kW W:=fun p hp=>⟨ha _ (mem_LS.mpr ⟨p,hp,.inl rfl⟩),ha _ (mem_LS.mpr ⟨p,hp,.inr rfl⟩)⟩
theorem gS (hn:seen.length<=6) (hs:(LS seen).length<=20) (hW:WI seen W) (ha:∀ x∈LS seen,x∈kW W):vz [sD seen,.dct (wD W)]=.ok (.lst (cD (CL W 0 seen)),[.non,.non]):=by
 obtain ⟨y3,y4,y5,e⟩:=Zh hs hW (some (sD seen)) seen 0 [] none none none (vU ha) (by simp; omega)
 rw [dg] at e
 refine runD_ap.trans ?_
 unfold wV
 rw [show qw wU [sD seen,.dct (wD W)]=[some (sD seen),some (.dct (wD W)),none,none,none,none] from rfl]
 refine (qB (ρ1:=[some (sD seen),some (.dct (wD W)),some (.lst []),none,none,none]) (by simp)).trans ?_
 refine (qB (ρ1:=[some (sD seen),some (.dct (wD W)),some (.lst (cD (CL W 0 seen))),y3,y4,y5]) (by
  rw [vG,show UQ (qe 0) [some (sD seen),some (.dct (wD W)),some (.lst []),none,none,none]=.ok (uN (jY seen),[some (sD seen),some (.dct (wD W)),some (.lst []),none,none,none]) from rfl,vM,qeO]
  exact e)).trans ?_
 simp [qv]
theorem qeQ (hW:WI seen W) (ha:∀ x∈LS seen,x∈kW W):∀ c∈CL W 0 seen,∀ k∈c.2,k < seen.length:=by
 intro c hc k hk
 obtain ⟨q,hq,rfl⟩:=aj.mp hc
 obtain ⟨p,j⟩:=q
 have hj:=List.mem_zipIdx hq
 have hp:p∈seen:=by rw [hj.2.2]; exact bq _
 obtain ⟨h1,h2⟩:=vU ha p hp
 unfold VH at hk
 simp only [ak,List.mem_reverse,am] at hk
 rcases hk with (hk | hk) | hk
 ·exact (hW.path _ (jr h1)).lt k hk
 ·have:=hj.2.1
  omega
 ·exact (hW.path _ (jr h2)).lt k hk
noncomputable def fD (F:List Ci):List (Key×D):=F.map fun c=>(.inr c.1,lD c.2)
noncomputable def kF (F:List Ci):List Str:=F.map (·.1)
theorem qbo (F:List Ci) (x:Str):GR (fD F) (.inr x)=decide (x∈kF F):=by
 unfold GR fD kF
 induction F with
 | nil=>rfl
 | cons e F ih=>
  rw [aC,cF,ih]
  by_cases h:e.1=x
  ·subst h; simp
  ·have h2:¬(bz e.1:Key)=bz x:=fun z=>h (bz.inj z)
   have h3:¬x=e.1:=fun z=>h z.symm
   simp [h2,h3]
variable {F:List Ci}
theorem qeR (h:x∉kF F):qa7 (fD F) (.inr x) (lD l)=fD (F++[(x,l)]):=by
 unfold qa7
 have h1:((fD F).any fun p=>decide (p.1=(bz x:Key)))=false:=by
  have:=qbo F x
  unfold GR at this
  rw [this]
  exact decide_eq_false h
 rw [h1,if_neg bf]
 unfold fD
 rw [bW]
 rfl
noncomputable def uA (F:List Ci) (x:Str):Wk:=((F.find? fun c=>decide (c.1=x)).map (·.2)).getD []
theorem VI:∀ (F:List Ci) (x:Str),(fD F).find? (fun kv=>decide (kv.1=(bz x:Key)))=(F.find? fun c=>decide (c.1=x)).map fun c=>(bz c.1,lD c.2)
 | [],x=>rfl
 | c::F,x=>by
  have ih:=VI F x
  unfold fD at ih ⊢
  rw [aC]
  by_cases h:c.1=x
  ·rw [bH (by simp [h]),bH (by simp [h])]
   rfl
  ·have h2:¬(bz c.1:Key)=bz x:=fun z=>h (bz.inj z)
   rw [bw (by simpa using h2),bw (by simpa using h),ih]
theorem qgz (h:x∈kF F):ixD (.dct (fD F)) (.str x)=.ok (lD (uA F x)):=by
 unfold ixD uA
 simp only [VI]
 cases q:F.find? fun c=>decide (c.1=x) with
 | none=>
  obtain ⟨e,he,rfl⟩:=aj.mp h
  have:=cR.mp q e he
  simp at this
 | some c=>rfl
theorem qeS (F:List Ci) (x:Str):qfD (fD F) (.inr x) (.lst [])=lD (uA F x):=by
 unfold qfD uA
 rw [VI]
 cases F.find? fun c=>decide (c.1=x) <;> rfl
noncomputable def FO:List Ci->List Ci->List Ci
 | F,[]=>F
 | F,c::C=>FO (if odd c.2=true/\c.1∉kF F then F++[c] else F) C
theorem ga:∀ (C F:List Ci),(∀ c∈FO F C,c∈F\/c∈C)/\(∀ x∈kF F,x∈kF (FO F C))/\(∀ c∈C,odd c.2=true->c.1∈kF (FO F C))/\(FO F C).length<=F.length+C.length
 | [],F=>⟨fun c h=>.inl h,fun x h=>h,by simp,by simp [FO]⟩
 | c::C,F=>by
  unfold FO
  by_cases q:odd c.2=true/\c.1∉kF F
  ·rw [if_pos q]
   obtain ⟨a,b,d,e⟩:=ga C (F++[c])
   refine ⟨fun y hy=>?_,fun x hx=>b x (by simp [kF] at hx ⊢; exact .inl hx),fun y hy ho=>?_,by rw [ai] at e; simp at e ⊢; omega⟩
   ·rcases a y hy with h | h
    ·rcases ak.mp h with h | h
     ·exact .inl h
     ·exact .inr (by rw [am.mp h]; exact ah ..)
    ·exact .inr (aa _ h)
   ·rcases ac.mp hy with rfl | hy
    ·exact b _ (by simp [kF])
    ·exact d y hy ho
  ·rw [if_neg q]
   obtain ⟨a,b,d,e⟩:=ga C F
   refine ⟨fun y hy=>?_,b,fun y hy ho=>?_,by simp at e ⊢; omega⟩
   ·rcases a y hy with h | h
    ·exact .inl h
    ·exact .inr (aa _ h)
   ·rcases ac.mp hy with rfl | hy
    ·exact b _ (bY fun w=>q ⟨ho,w⟩)
    ·exact d y hy ho
abbrev foB:Sl->Out (Fl×Sl):=(sIf (qca (zl (qt [.vl] wk (qd (qe 3) qH))) (je (d2 xT (qe 2) (qe 1)))) (Qk 1 (qe 3) (qe 2)) ka)
theorem qeT (F:List Ci) (x:Str):xT (.str x) (.dct (fD F))=.ok (.bl (!decide (x∈kF F))):=by
 unfold xT
 simp only [KC]
 rw [qbo]
theorem VJ (cd0:Option D):∀ (C F:List Ci) (x2 x3:Option D),F.length+C.length<=500->∃ y2 y3,wz (kz 2 (qJ (gNm 2) (qJ (gNm 3) ky))) foB (cD C) [cd0,some (.dct (fD F)),x2,x3]=.ok (.nx,[cd0,some (.dct (fD (FO F C))),y2,y3])
 | [],F,x2,x3,_=>⟨x2,x3,rfl⟩
 | c::C,F,x2,x3,hl=>by
  rw [ap] at hl
  have h1:=zY c.2
  have h2:=qeT F c.1
  have hwl:(fD F).length < sizeLine:=aI (by simp [fD]; omega) big
  unfold FO
  by_cases q:odd c.2=true/\c.1∉kF F
  ·rw [if_pos q]
   obtain ⟨y2,y3,ih⟩:=VJ cd0 C (F++[c]) (some (.str c.1)) (some (lD c.2)) (by rw [ai]; simp; omega)
   refine ⟨y2,y3,cZ (uF (d:=cd c) (ρ1:=[cd0,some (.dct (fD F)),some (.str c.1),some (lD c.2)]) rfl ?_) ih⟩
   rw [q.1] at h1
   rw [decide_eq_false q.2] at h2
   have hp:=qeR (F:=F) (x:=c.1) (l:=c.2) q.2
   simp [qy,jl,h1,ye,h2,Qk,KC,hwl,hp]
  ·rw [if_neg q]
   obtain ⟨y2,y3,ih⟩:=VJ cd0 C F (some (.str c.1)) (some (lD c.2)) (by omega)
   refine ⟨y2,y3,cZ (uF (d:=cd c) (ρ1:=[cd0,some (.dct (fD F)),some (.str c.1),some (lD c.2)]) rfl ?_) ih⟩
   cases q1:odd c.2 with
   | false=>
    rw [q1] at h1
    simp [qy,jl,h1,ye]
   | true=>
    rw [q1] at h1
    have:c.1∈kF F:=bY fun w=>q ⟨q1,w⟩
    rw [decide_eq_true this] at h2
    simp [qy,jl,h1,ye,h2]
theorem Ua (C:List Ci) (hl:C.length<=400):wo [.lst (cD C)]=.ok (.dct (fD (FO [] C)),[.non]):=by
 obtain ⟨y2,y3,e⟩:=VJ (some (.lst (cD C))) C [] none none (by simp; omega)
 refine runD_ap.trans ?_
 unfold uQ
 rw [show qw uP [.lst (cD C)]=[some (.lst (cD C)),none,none,none] from rfl]
 refine (qB (ρ1:=[some (.lst (cD C)),some (.dct []),none,none]) (by simp)).trans ?_
 refine (qB (ρ1:=[some (.lst (cD C)),some (.dct (fD (FO [] C))),y2,y3]) (by
  rw [vG,show km (qe 0) [some (.lst (cD C)),some (.dct []),none,none]=.ok (cD C,[some (.lst (cD C)),some (.dct []),none,none]) from rfl,vM]
  exact e)).trans ?_
 simp [qv]
noncomputable def JN (F C:List Ci):List Ci:=(C.filter fun c=>odd c.2).map fun c=>(c.1,uA F c.1++c.2)
abbrev joT:Sl->Out (Bool×Sl):=zl (qt [.vl] wk (qd (qe 1) qH))
abbrev joE:Sl->Out (D×Sl):=zm (qd (qe 0) (qd (d2 jJ (d2 ixD (qe 2) (qe 0)) (qe 1)) qH))
theorem Zi (hF:∀ c∈F,c.2.length<=100):∀ (C:List Ci) (x y:Option D),(∀ c∈C,c.2.length<=100)->(∀ c∈C,odd c.2=true->c.1∈kF F) ->
  ∃ x' y',jt (kz 2 (qJ (gNm 0) (qJ (gNm 1) ky))) joT joE (cD C) [x,y,some (.dct (fD F))]=.ok (cD (JN F C),[x',y',some (.dct (fD F))])
 | [],x,y,_,_=>⟨x,y,rfl⟩
 | c::C,x,y,hl,hk=>by
  obtain ⟨x',y',ih⟩:=Zi hF C (some (.str c.1)) (some (lD c.2)) (fun d hd=>hl d (aa _ hd)) fun d hd=>hk d (aa _ hd)
  refine ⟨x',y',?_⟩
  have h1:=zY c.2
  have z2:2<=sizeLine:=jz (by omega)
  have e0:cD (c::C)=.tup [.str c.1,lD c.2]::cD C:=rfl
  cases q:odd c.2 with
  | false=>
   rw [q] at h1
   have e1:JN F (c::C)=JN F C:=by simp [JN,q]
   rw [e0,e1]
   simp [jt,yS,kz,qJ,ky,qy,jl,h1,ye,ih]
  | true=>
   rw [q] at h1
   have e1:JN F (c::C)=(c.1,uA F c.1++c.2)::JN F C:=by simp [JN,q]
   have hm:=hk c (ah ..) q
   have i1:=qgz hm
   have hg:(uA F c.1).length<=100:=by
    unfold uA
    cases w:F.find? fun d=>decide (d.1=c.1) with
    | none=>simp
    | some d=>exact hF d (bL w)
   have hcl:=hl c (ah ..)
   have a1:=Zg (a:=uA F c.1) (b:=c.2) (by omega)
   rw [e0,e1]
   simp [jt,yS,kz,qJ,ky,qy,jl,h1,ye,i1,a1,z2,ih]
   simp [cD,cd]
theorem yK {nt:Nat} {g:D->Sl->Out Sl} {es:List D} (h:fi ρ=.ok (ds,ρ1)) (hl:ds.length<=sizeLine) (hc:jt g ft fe ds (kO nt cap ρ1)=.ok (es,ρ2)):ju own nt cap fi g ft fe ρ=.ok (.lst es,jx own ρ2 nt cap ρ1):=by
 unfold ju
 rw [h]
 simp only [vM]
 rw [if_pos hl,hc]
 rfl
abbrev baB:Sl->Out (Fl×Sl):=(sIf (zl (qt [.vl,.vl,.vl] WM (qd (qe 7) (qd (qe 1) (qd (qe 2) qH))))) (jZ (zm (qd (qe 6) (qd (qe 7) qH)))) ka)
theorem Zj (hnd:qcU nd ns) (hr:1<=r) (a b c d:Option D):∀ (L:List Ci) (x y:Option D),(∀ w∈L,∀ k∈w.2,k < ns.length)->∃ ρ,wz (kz 2 (qJ (gNm 6) (qJ (gNm 7) ky))) baB (cD L) [a,some (.int r),some nd,b,c,d,x,y]=.ok (match L.find? fun w=>Yh w.2 r ns with | some w=>.rt (cd w) | none=>.nx,ρ)
 | [],x,y,_=>⟨_,rfl⟩
 | w::L,x,y,h=>by
  have h1:=qcV hnd (h w (ah ..)) hr
  have z2:2<=sizeLine:=jz (by omega)
  cases q:Yh w.2 r ns with
  | true=>
   rw [q] at h1
   refine ⟨[a,some (.int r),some nd,b,c,d,some (.str w.1),some (lD w.2)],?_⟩
   rw [bH (by simpa using q)]
   exact qeN (d:=cd w) (ρ1:=[a,some (.int r),some nd,b,c,d,some (.str w.1),some (lD w.2)]) rfl (by simp [qy,jl,h1,ye,z2,cd])
  | false=>
   rw [q] at h1
   obtain ⟨ρ,ih⟩:=Zj hnd hr a b c d L (some (.str w.1)) (some (lD w.2)) fun v hv=>h v (aa _ hv)
   refine ⟨ρ,?_⟩
   rw [bw (by simpa using q)]
   exact cZ (uF (d:=cd w) (ρ1:=[a,some (.int r),some nd,b,c,d,some (.str w.1),some (lD w.2)]) rfl (by simp [qy,jl,h1,ye])) ih
noncomputable def BO (W:Wy) (seen:List Pr) (r:Int) (ns:List Int):Option Ci:=(CL W 0 seen++JN (FO [] (CL W 0 seen)) (CL W 0 seen)).find? fun w=>Yh w.2 r ns
theorem qeU (hs:(LS seen).length<=20) (hW:WI seen W) (ha:∀ x∈LS seen,x∈kW W):∀ c∈CL W 0 seen,c.2.length<=100:=by
 intro c hc
 obtain ⟨q,hq,rfl⟩:=aj.mp hc
 obtain ⟨p,j⟩:=q
 have hj:=List.mem_zipIdx hq
 have hp:p∈seen:=by rw [hj.2.2]; exact bq _
 obtain ⟨h1,h2⟩:=vU ha p hp
 have l1:=hW.len _ (jr h1)
 have l2:=hW.len _ (jr h2)
 have hle:=hW.le
 simp only [] at l1 l2
 unfold VH
 simp
 omega
theorem Zk (W:Wy) (k0:Nat) (seen:List Pr):(CL W k0 seen).length=seen.length:=by simp [CL]
structure Sn (seen:List Pr) (W:Wy):Prop where
 n:seen.length<=6
 s:(LS seen).length<=12
 w:WI seen W
 C:CI seen W
 R:RI W
 a:∀ x∈LS seen,x∈kW W
 e:wT [sD seen]=.ok (.dct (wD W),[.non])
 z:∀ x∈LS seen,x.length<=2000
theorem gb (S:Sn seen W) (hnd:qcU nd ns) (hns:ns.length=seen.length) (hr:1<=r) :
  yC [sD seen,.int r,nd]=.ok (match BO W seen r ns with | some w=>cd w | none=>.non,[.non,.non,.non]):=by
 have hs:(LS seen).length<=20:=by have:=S.s; omega
 have h1:=gS S.n hs S.w S.a
 have hcl:=Zk W 0 seen
 have hn:=S.n
 have h2:=Ua (CL W 0 seen) (by omega)
 have hlen:=qeU hs S.w S.a
 have hlt:=qeQ S.w S.a
 obtain ⟨f1,_,f3,f4⟩:=ga (CL W 0 seen) []
 have hF:∀ c∈FO [] (CL W 0 seen),c∈CL W 0 seen:=fun c hc=>by
  rcases f1 c hc with h | h
  ·cases h
  ·exact h
 unfold BO
 generalize hC:CL W 0 seen=C at h1 h2 hcl hlen hlt f3 hF
 generalize hFo:FO [] C=F at h2 f3 hF
 obtain ⟨x',y',jc⟩:=Zi (F:=F) (fun c hc=>hlen c (hF c hc)) C none none hlen f3
 refine runD_ap.trans ?_
 unfold QB
 rw [show qw xZ [sD seen,.int r,nd]=[some (sD seen),some (.int r),some (nd),none,none,none,none,none] from rfl]
 have hw:=S.e
 refine (qB (ρ1:=[some (sD seen),some (.int r),some (nd),some (.lst (cD C)),none,none,none,none]) (by simp [qy,jl,hw,h1])).trans ?_
 refine (qB (ρ1:=[some (sD seen),some (.int r),some (nd),some (.lst (cD C)),some (.dct (fD F)),none,none,none]) (by simp [qy,jl,h2])).trans ?_
 have jd:=yK (own:=[]) (cap:=[4]) (nt:=2) (fi:=km (qe 3)) (g:=kz 2 (qJ (gNm 0) (qJ (gNm 1) ky))) (ft:=joT) (fe:=joE) (ρ:=[some (sD seen),some (.int r),some (nd),some (.lst (cD C)),some (.dct (fD F)),none,none,none]) (ρ1:=[some (sD seen),some (.int r),some (nd),some (.lst (cD C)),some (.dct (fD F)),none,none,none]) (ds:=cD C) rfl (by simp [cD]; exact jz (by omega)) jc
 refine (qB (ρ1:=[some (sD seen),some (.int r),some (nd),some (.lst (cD C)),some (.dct (fD F)),some (.lst (cD (JN F C))),none,none]) (by rw [yW,jd]; rfl)).trans ?_
 have hjl:(JN F C).length<=6:=by
  unfold JN
  rw [au]
  have:=b6 (fun c:Ci=>odd c.2) C
  omega
 have hz:(cD C).length+(cD (JN F C)).length<=sizeLine:=by simp [cD]; exact jz (by omega)
 have hall:∀ w∈C++JN F C,∀ k∈w.2,k < ns.length:=fun w hw k hk=>by
  rw [hns]
  rcases ak.mp hw with h | h
  ·exact hlt w h k hk
  ·obtain ⟨c,hc,rfl⟩:=aj.mp h
   have hc:=(aD.mp hc).1
   rcases ak.mp hk with h | h
   ·unfold uA at h
    cases w:F.find? fun d=>decide (d.1=c.1) with
    | none=>rw [w] at h; cases h
    | some d=>
     rw [w] at h
     exact hlt d (hF d (bL w)) k h
   ·exact hlt c hc k h
 obtain ⟨ρ,e⟩:=Zj hnd hr (some (sD seen)) (some (.lst (cD C))) (some (.dct (fD F))) (some (.lst (cD (JN F C)))) (C++JN F C) none none hall
 have hfor:KU (km (d2 jJ (qe 3) (qe 5))) (kz 2 (qJ (gNm 6) (qJ (gNm 7) ky))) baB [some (sD seen),some (.int r),some (nd),some (.lst (cD C)),some (.dct (fD F)),some (.lst (cD (JN F C))),none,none]=wz (kz 2 (qJ (gNm 6) (qJ (gNm 7) ky))) baB (cD (C++JN F C)) [some (sD seen),some (.int r),some (nd),some (.lst (cD C)),some (.dct (fD F)),some (.lst (cD (JN F C))),none,none]:=by
  rw [vG,show km (d2 jJ (qe 3) (qe 5)) [some (sD seen),some (.int r),some (nd),some (.lst (cD C)),some (.dct (fD F)),some (.lst (cD (JN F C))),none,none]=.ok (cD (C++JN F C),[some (sD seen),some (.int r),some (nd),some (.lst (cD C)),some (.dct (fD F)),some (.lst (cD (JN F C))),none,none]) by
   simp [jJ,hz,jL]
   simp [cD]]
  rfl
 cases q:(C++JN F C).find? fun w=>Yh w.2 r ns with
 | some w=>
  rw [q] at e
  rw [Vf,hfor.trans e]
  rfl
 | none=>
  rw [q] at e
  refine (qB (hfor.trans e)).trans ?_
  rfl
theorem Ub (hw:jE ws) {p:Int} (hl:Yk p q):xc [Wd ws,Ld p q]=.ok (sD (qA ws p q),[.non,.non]):=qaD hw hl
def qE (n:Nat) (r:Int) (ns:List Int):Prop:=ns.length=n/\∀ i∈ns,0<=i/\i < r
theorem QT (h:qE n r ns) (hn:n<=50):wO [nD ns,.int (n:Nat),.int r]=.ok (.bl true,[.non,.non,.non]):=by
 have ht:=qeK (d:=nD ns) trivial
 have e:=uE (cap:=[2]) (fi:=km (qe 0)) (ρ:=[some (nD ns),some (.int (n:Nat)),some (.int r)]) (ρ1:=[some (nD ns),some (.int (n:Nat)),some (.int r)]) (ds:=ns.map D.int) (fe:=qt [.vl,.vl,.vl] jD (qd (qe 0) (qd (dC (.int 0)) (qd (d2 UA (qe 1) (dC (.int 1))) qH)))) (fun d=>.bl (VD 0 (r - 1) d)) (by simp [jL]) (by rw [au,h.1]; exact jz (by omega)) (fun d hd=>by
  obtain ⟨i,hi,rfl⟩:=aj.mp hd
  have h1:=kK (d:=.int i) trivial 0 (r - 1)
  simp [qy,jl,UA,uy,h1])
 have ha:=QP (VD 0 (r - 1)) (ns.map D.int)
 have hall:(ns.map D.int).all (VD 0 (r - 1))=true:=by
  rw [bp]
  intro d hd
  obtain ⟨i,hi,rfl⟩:=aj.mp hd
  have:=h.2 i hi
  simp [VD]
  omega
 rw [hall] at ha
 have hlen:(ns.map D.int).length=n:=by rw [au,h.1]
 refine runD_ap.trans ?_
 simp [-bo,wN,qw,qv,ht,qcT,ye,jF,neD,eqN,eqS,h.1,e,ha]
theorem xM (h:qE n r ns) (hn:n<=50):kU [nD ns,.int (n:Nat),.int r]=.ok (.non,[.non,.non,.non]):=by
 have h1:=QT h hn
 refine runD_ap.trans ?_
 simp [kT,qw,qv,qy,jl,h1,ye]
theorem VL (hw:jE ws) {p:Int} (hl:Yk p q) (h0:1<=r) (h1:r<=99) (hn:qE ws.length r ns):kt [Wd ws,Ld p q,.int r,nD ns]=.ok (sD (qA ws p q),[.non,.non,.non,.non]):=by
 have e1:=Ub hw hl
 have e2:=QS (d:=.int r) trivial
 rw [if_pos (by simp [VD]; exact ⟨h0,h1⟩)] at e2
 have e3:=xM hn (by have:=hw.2.1; omega)
 refine runD_ap.trans ?_
 simp [wQ,qw,qv,qy,jl,e1,e2,jF,e3]
theorem qc2 (hw:jE ws) (p q:Int):∃ W,Sn (qA ws p q) W:=by
 have h1:(qA ws p q).length<=6:=by simp [qA]; exact hw.2.1
 have h2:=qbh hw p q
 obtain ⟨W,a,b,c,d,e⟩:=gQ h1 h2
 exact ⟨W,h1,h2,a,b,c,d,e,fun x hx=>by
  obtain ⟨k,_,rfl⟩:=qgy hw p q x hx
  show 1<=2000
  omega⟩
theorem qeV (hw:jE ws) {p:Int} (hl:Yk p q) (h0:1<=r) (h1:r<=99) (hn:qE ws.length r ns) (S:Sn (qA ws p q) W) :
  qcM [Wd ws,Ld p q,.int r,nD ns]=.ok (match BO W (qA ws p q) r ns with | some w=>cd w | none=>.non,[.non,.non,.non,.non]):=by
 have e1:=VL hw hl h0 h1 hn
 have e2:=gb S (qbj ns) (by rw [hn.1]; simp [qA]) h0
 refine runD_ap.trans ?_
 simp [qcL,qw,qv,qy,jl,e1,e2]
noncomputable def yL (t r:Int):Int:=if t % r % 2=0 then t % r / 2 else (t % r+r) / 2
theorem qc3 (t:Int) (hr:1<=r):XU [.int t,.int r]=.ok (.int (yL t r),[.non,.non]):=by
 have h0:0 < r:=by omega
 have hc:∀ i,qdH i 2:=fun i=>⟨by omega,by omega⟩
 unfold yL
 refine runD_ap.trans ?_
 by_cases q:t % r % 2=0 <;> simp [XT,qw,qv,gj,uy,h0,eqD,eqN,eqS,UB,hc,jJ,q]
noncomputable def rW (l:Wk) (r:Int) (ns:List Int):List Int:=if l=[] then (aF r.toNat).map fun (j:Nat)=>(j:Int) else if r % 2=0 then [yL (qM ns 0 l) r,yL (qM ns 0 l) r+r / 2] else [yL (qM ns 0 l) r]
abbrev iD (xs:List Int):D:=.lst (xs.map D.int)
theorem gz (h:∀ k∈l,k < ns.length) (hr:1<=r) (h9:r<=99):kJ [lD l,.int r,nD ns]=.ok (iD (rW l r ns),[.non,.non,.non]):=by
 have z2:2<=sizeLine:=jz (by omega)
 have z1:1<=sizeLine:=jz (by omega)
 have hc:∀ i,qdH i 2:=fun i=>⟨by omega,by omega⟩
 refine runD_ap.trans ?_
 unfold rW
 cases l with
 | nil=>
  have c1:qab 0 r/\r - 0<=1000000:=⟨⟨⟨by omega,by omega⟩,by omega,by omega⟩,by omega⟩
  have e:yq (.int r)=.ok (.lst ((aF r.toNat).map fun (j:Nat)=>.int (j:Int))):=by
   unfold yq
   dsimp only
   rw [if_pos c1,Int.sub_zero]
   simp [xQ]
  rw [if_pos rfl,show iD ((aF r.toNat).map fun (j:Nat)=>(j:Int))=.lst ((aF r.toNat).map fun (j:Nat)=>.int (j:Int)) by simp [iD]]
  simp [jV,qw,qv,jF,inL,eqD,eqN,eqS,e]
 | cons a l=>
  have h1:=zX (qbj ns) h 0
  have h2:=qc3 (qM ns 0 (a::l)) hr
  have hlen:¬inL (a::l)=[]:=by simp [inL]
  rw [if_neg (by simp)]
  generalize hx:qM ns 0 (a::l)=t at h1 h2
  generalize hy:yL t r=w at h2
  generalize hz:lD (a::l)=ld at h1
  have hlen2:jF ld=.ok (.int ((inL (a::l)).length:Int)):=by rw [<-hz]; rfl
  by_cases q:r % 2=0
  ·rw [if_pos q]
   simp [jV,qw,qv,hlen2,eqD,eqN,eqS,hlen,qy,jl,h1,h2,gj,uy,q,UB,hc,jJ,z2]
  ·rw [if_neg q]
   simp [jV,qw,qv,hlen2,eqD,eqN,eqS,hlen,qy,jl,h1,h2,gj,uy,q,z1]
noncomputable def RT (W:Wy):List Str:=(kQ (kW W)).filter fun x=>decide ((qT W x).1=x)
abbrev Rt:=Str×List Int
noncomputable def rd (x:Rt):D:=.tup [.str x.1,iD x.2]
noncomputable def RO (W:Wy) (seen:List Pr) (r:Int) (ns:List Int):List Rt:=(RT W).map fun x=>(x,rW (uA (FO [] (CL W 0 seen)) x) r ns)
theorem Zl:∀ W:Wy,Vh (wD W)=some (kW W)
 | []=>rfl
 | e::W=>by
  have ih:=Zl W
  show (Vh (wD W)).map (e.1::·)=_
  rw [ih]
  rfl
theorem VM (S:Sn seen W) (hns:ns.length=seen.length) (hr:1<=r) (h9:r<=99) :
  uk [sD seen,.int r,nD ns]=.ok (.lst ((RO W seen r ns).map rd),[.non,.non,.non]):=by
 have hs:(LS seen).length<=20:=by have:=S.s; omega
 have h1:=gS S.n hs S.w S.a
 have hcl:=Zk W 0 seen
 have hn:=S.n
 have h2:=Ua (CL W 0 seen) (by omega)
 have hlt:=qeQ S.w S.a
 obtain ⟨f1,_,f3,f4⟩:=ga (CL W 0 seen) []
 have hF:∀ c∈FO [] (CL W 0 seen),c∈CL W 0 seen:=fun c hc=>by
  rcases f1 c hc with h | h
  ·cases h
  ·exact h
 unfold RO
 generalize hC:CL W 0 seen=C at h1 h2 hcl hlt f3 hF
 generalize hFo:FO [] C=F at h2 f3 hF
 have hle:=S.w.le
 have hs12:=S.s
 have hk64:(kW W).length < 64:=by simp [kW]; omega
 have hkz:((kW W).all fun y=>decide (y.length<=sizeLine))=true:=by
  rw [bp]
  intro y hy
  exact decide_eq_true (jz (S.z y (S.w.sub y hy)))
 have hso:vZ (.dct (wD W))=.ok (.lst ((kQ (kW W)).map D.str)):=by
  unfold vZ
  simp only [Zl]
  rw [if_pos ⟨hk64,hkz⟩]
 have hsm:∀ x∈kQ (kW W),x∈kW W:=fun x hx=>(qX _).mem_iff.mp hx
 have hsl:(kQ (kW W)).length<=12:=by rw [(qX _).length_eq]; simp [kW]; omega
 refine runD_ap.trans ?_
 unfold xi
 rw [show qw vQ [sD seen,.int r,nD ns]=[some (sD seen),some (.int r),some (nD ns),none,none,none] from rfl]
 have hw:=S.e
 refine (qB (ρ1:=[some (sD seen),some (.int r),some (nD ns),some (.dct (wD W)),none,none]) (by simp [qy,jl,hw])).trans ?_
 refine (qB (ρ1:=[some (sD seen),some (.int r),some (nD ns),some (.dct (wD W)),some (.dct (fD F)),none]) (by simp [qy,jl,h1,h2])).trans ?_
 have c1:=WV (own:=[]) (cap:=[3]) (fi:=km (d1 vZ (qe 3))) (ft:=je (d2 eqD (d2 ixD (d2 ixD (qe 1) (qe 0)) (dC (.int 0))) (qe 0))) (fe:=qe 0) (ρ:=[some (sD seen),some (.int r),some (nD ns),some (.dct (wD W)),some (.dct (fD F)),none]) (ρ1:=[some (sD seen),some (.int r),some (nD ns),some (.dct (wD W)),some (.dct (fD F)),none]) (ds:=(kQ (kW W)).map D.str) (fun d=>match d with | .str x=>decide ((qT W x).1=x) | _=>false) (fun d=>d) (by simp) (by simp [hso,jL]) (by rw [au]; exact jz (by omega)) (fun d hd=>by
  obtain ⟨x,hx,rfl⟩:=aj.mp hd
  have i1:=VG S.w.nd (hsm x hx)
  simp [i1,qhc,eqD,eqN,eqS]
  rfl) (fun d hd _=>by simp)
 have e1:(((kQ (kW W)).map D.str).filter fun d=>match d with | .str x=>decide ((qT W x).1=x) | _=>false).map (fun d=>d)=(RT W).map D.str:=by
  rw [e6,d6]
  rfl
 rw [e1] at c1
 refine (qB (ρ1:=[some (sD seen),some (.int r),some (nD ns),some (.dct (wD W)),some (.dct (fD F)),some (.lst ((RT W).map D.str))]) (by rw [yW,c1]; rfl)).trans ?_
 have hRl:(RT W).length<=12:=by
  have:=b6 (fun x=>decide ((qT W x).1=x)) (kQ (kW W))
  unfold RT
  omega
 have z2:2<=sizeLine:=jz (by omega)
 have c2:=uE (cap:=[1,2,4]) (fi:=km (qe 5)) (fe:=zm (qd (qe 0) (qd (qt [.vl,.vl,.vl] kJ (qd (qad (qe 3) (qe 0) (xO qH)) (qd (qe 1) (qd (qe 2) qH)))) qH))) (ρ:=[some (sD seen),some (.int r),some (nD ns),some (.dct (wD W)),some (.dct (fD F)),some (.lst ((RT W).map D.str))]) (ρ1:=[some (sD seen),some (.int r),some (nD ns),some (.dct (wD W)),some (.dct (fD F)),some (.lst ((RT W).map D.str))]) (ds:=(RT W).map D.str) (fun d=>match d with | .str x=>rd (x,rW (uA F x) r ns) | d=>d) (by simp [jL]) (by rw [au]; exact jz (by omega)) (fun d hd=>by
  obtain ⟨x,hx,rfl⟩:=aj.mp hd
  have g1:=qeS F x
  have hgl:∀ k∈uA F x,k < ns.length:=fun k hk=>by
   unfold uA at hk
   cases w:F.find? fun d=>decide (d.1=x) with
   | none=>rw [w] at hk; cases hk
   | some d=>
    rw [w] at hk
    rw [hns]
    exact hlt d (hF d (bL w)) k hk
  have h3:=gz hgl hr h9
  simp [qad,KC,g1,qy,jl,h3,z2,rd])
 have e2:((RT W).map D.str).map (fun d=>match d with | .str x=>rd (x,rW (uA F x) r ns) | d=>d)=((RT W).map fun x=>(x,rW (uA F x) r ns)).map rd:=by
  rw [bo,bo]
  rfl
 rw [e2] at c2
 rw [Vg,c2]
 rfl
noncomputable def HM (W:Wy) (seen:List Pr) (r:Int) (ns:List Int):Int:=match BO W seen r ns with
 | some _=>0
 | none=>(RO W seen r ns).foldl (fun a x=>a * (x.2.length:Int)) 1
theorem qeW (l:Wk) (hr:1<=r) (h9:r<=99) (ns:List Int):(rW l r ns).length<=99:=by
 unfold rW
 split
 ·simp; omega
 ·split <;> simp
theorem Zm (a b c d:Option D):∀ (L:List Rt) (t:Int) (x y:Option D),(∀ w∈L,w.2.length<=99)->∃ x' y',wz (kz 2 (qJ (gNm 5) (qJ (gNm 6) ky))) (kb 4 (d2 Yl (qe 4) (d1 jF (qe 6)))) (L.map rd) [a,b,c,d,some (.int t),x,y]=.ok (.nx,[a,b,c,d,some (.int (L.foldl (fun a x=>a * (x.2.length:Int)) t)),x',y'])
 | [],t,x,y,_=>⟨x,y,rfl⟩
 | w::L,t,x,y,h=>by
  have hw:=h w (ah ..)
  obtain ⟨x',y',ih⟩:=Zm a b c d L (t * (w.2.length:Int)) (some (.str w.1)) (some (iD w.2)) fun v hv=>h v (aa _ hv)
  have hc:CMul t (w.2.length:Int):=.inr ⟨by omega,by omega⟩
  refine ⟨x',y',cZ (uF (d:=rd w) (ρ1:=[a,b,c,d,some (.int t),some (.str w.1),some (iD w.2)]) rfl ?_) ih⟩
  simp [jF,Yl,uy,hc]
theorem uT (hw:jE ws) {p:Int} (hl:Yk p q) (h0:1<=r) (h9:r<=99) (hn:qE ws.length r ns) (S:Sn (qA ws p q) W) :
  vR [Wd ws,Ld p q,.int r,nD ns]=.ok (.int (HM W (qA ws p q) r ns),[.non,.non,.non,.non]):=by
 have e1:=qeV hw hl h0 h9 hn S
 have e2:=Ub hw hl
 have e3:=VM S (ns:=ns) (by rw [hn.1]; simp [qA]) h0 h9
 refine runD_ap.trans ?_
 unfold HM
 cases qb:BO W (qA ws p q) r ns with
 | some c=>
  rw [qb] at e1
  simp [um,qw,qv,qy,jl,e1,GD,cd]
 | none=>
  rw [qb] at e1
  obtain ⟨x',y',e4⟩:=Zm (some (Wd ws)) (some (Ld p q)) (some (.int r)) (some (nD ns)) (RO W (qA ws p q) r ns) 1 none none (fun w hw=>by
   obtain ⟨x,_,rfl⟩:=aj.mp hw
   exact qeW _ h0 h9 _)
  unfold um
  rw [show qw xj [Wd ws,Ld p q,.int r,nD ns]=[some (Wd ws),some (Ld p q),some (.int r),some (nD ns),none,none,none] from rfl]
  refine (qB (ρ1:=[some (Wd ws),some (Ld p q),some (.int r),some (nD ns),none,none,none]) (by simp [qy,jl,e1,GD])).trans ?_
  refine (qB (ρ1:=[some (Wd ws),some (Ld p q),some (.int r),some (nD ns),some (.int 1),none,none]) (by simp)).trans ?_
  refine (qB (ρ1:=[some (Wd ws),some (Ld p q),some (.int r),some (nD ns),some (.int ((RO W (qA ws p q) r ns).foldl (fun a x=>a * (x.2.length:Int)) 1)),x',y']) (by
   rw [vG,show km (qt [.vl,.vl,.vl] uk (qd (qt [.vl,.vl] xc (qd (qe 0) (qd (qe 1) qH))) (qd (qe 2) (qd (qe 3) qH)))) [some (Wd ws),some (Ld p q),some (.int r),some (nD ns),some (.int 1),none,none]=.ok ((RO W (qA ws p q) r ns).map rd,[some (Wd ws),some (Ld p q),some (.int r),some (nD ns),some (.int 1),none,none]) by simp [qy,jl,e2,e3,jL],vM]
   exact e4)).trans ?_
  simp [qv]
theorem Zn (l:List Pr):(LS l).Nodup:=(qX _).nodup_iff.mpr (Km _ [] dI).1
noncomputable def jA (l:List (Str×Int)) (s:List Pr) (r:Int):List Int:=s.map fun x=>(jo l x.1+jo l x.2) % r
theorem iR0 {f:Sl->Out (D×Sl)} {k:Int} (h0:0<=k) (h1:k<=2000) (h:f ρ=.ok (.int k,ρ1)):kx f ρ=.ok (xQ 0 k.toNat,ρ1):=by
 have c1:-(2 ^ 62:Int)<=k/\k < 2 ^ 62:=by omega
 simp [kx,h,-Int.reducePow,c1]
noncomputable def sg (l:Wk):Int:=if odd l=true then -1 else 1
theorem qaF (k:Nat) (l:Wk):odd (k::l)=!odd l:=by
 unfold odd
 rw [ap]
 by_cases h:l.length % 2=1
 ·rw [decide_eq_true h,decide_eq_false (by omega)]; rfl
 ·rw [decide_eq_false h,decide_eq_true (by omega)]; rfl
theorem qc4 (k:Nat) (l:Wk):sg (k::l)=- sg l:=by
 unfold sg
 rw [qaF]
 cases odd l <;> rfl
theorem wZ (ns:List Int) (t:Int) (a b:Wk):qM ns t (a++b)=qM ns (qM ns t a) b:=eJ ..
theorem xp (ns:List Int) (t:Int) (k:Nat) (l:Wk):qM ns t (k::l)=qM ns (nI ns k - t) l:=rfl
theorem wq (ns:List Int):∀ (l:Wk) (t:Int),qM ns t l=qM ns 0 l+sg l * t
 | [],t=>by simp [qM,sg,odd]
 | k::l,t=>by
  have h1:=wq ns l (nI ns k - t)
  have h2:=wq ns l (nI ns k - 0)
  rw [xp,xp,h1,h2,qc4,fH,fH,Int.neg_mul]
  simp
  omega
theorem Ko (ns:List Int):∀ (l:Wk) (s:Int),qM ns (qM ns s l) l.reverse=s
 | [],s=>rfl
 | k::l,s=>by
  have h:=Ko ns l (nI ns k - s)
  rw [xp,cT,wZ,h]
  show nI ns k - (nI ns k - s)=s
  omega
theorem qaG (l:Wk):sg l=1\/sg l=-1:=by
 unfold sg
 split
 ·exact .inr rfl
 ·exact .inl rfl
theorem qeX {a:Int} (l:Wk):r ∣ sg l * a↔r ∣ a:=by
 rcases qaG l with h | h
 ·rw [h,fI]
 ·rw [h,Int.neg_one_mul,Int.dvd_neg]
theorem mod_iff {a b:Int}:a % r=b % r↔r ∣ a - b:=by rw [Int.emod_eq_emod_iff_emod_sub_eq_zero,Int.dvd_iff_emod_eq_zero]
theorem qaH {a b:Int} (h:r ∣ a - b) (a0:0<=a) (a1:a < r) (b0:0<=b) (b1:b < r):a=b:=by
 have:=mod_iff.mpr h
 rwa [bE a0 a1,bE b0 b1] at this
def Sol (seen:List Pr) (r:Int) (ns:List Int) (v:Str->Int):Prop:=∀ (k:Nat) (p:Pr),seen[k]?=some p->r ∣ v p.1+v p.2 - nI ns k
variable {v:Str->Int}
theorem Path.val (hS:Sol seen r ns v) {ρ:Str} (h:Path seen ρ l x):r ∣ v x - qM ns (v ρ) l:=by
 induction h with
 | nil=>
  show r ∣ v ρ - v ρ
  rw [Int.sub_self]
  exact ⟨0,by simp⟩
 | snoc hp e hq ih=>
  rename_i l x y k p
  have hk:=hS k p e
  have hsum:r ∣ v x+v y - nI ns k:=by
   rcases hq with rfl | rfl
   ·exact hk
   ·rw [Int.add_comm (v x)]; exact hk
  rw [wZ]
  show r ∣ v y - (nI ns k - qM ns (v ρ) l)
  have e1:v y - (nI ns k - qM ns (v ρ) l)=(v x+v y - nI ns k) - (v x - qM ns (v ρ) l):=by omega
  rw [e1]
  exact c6 hsum ih
def okS (r:Int) (ns:List Int) (c:Wk) (s:Int):Prop:=r ∣ qM ns s c - s
variable {c:Wk}
theorem QU (h:odd c=false) (s:Int):okS r ns c s↔r ∣ qM ns 0 c:=by
 unfold okS
 rw [wq,show sg c=1 by unfold sg; rw [h]; rfl,fI,Int.add_sub_cancel]
theorem QV (h:odd c=true) (s:Int):okS r ns c s↔r ∣ qM ns 0 c - 2 * s:=by
 unfold okS
 rw [wq,show sg c=-1 by unfold sg; rw [h]; rfl,show qM ns 0 c + -1 * s - s=qM ns 0 c - 2 * s by omega]
theorem Zo (W:Wy) (p:Pr) (k:Nat) (r:Int) (ns:List Int) (s:Int):okS r ns (VH W p k).2 s↔r ∣ qM ns s (qT W p.1).2+qM ns s (qT W p.2).2 - nI ns k:=by
 unfold okS VH
 simp only []
 rw [wZ,wZ]
 have h1:=Ko ns (qT W p.2).2 s
 generalize qM ns s (qT W p.1).2=A
 generalize qM ns s (qT W p.2).2=B at h1
 generalize (qT W p.2).2.reverse=L at h1
 show r ∣ qM ns (nI ns k - A) L - s↔_
 have e:qM ns (nI ns k - A) L - s=sg L * (nI ns k - A - B):=by
  have h2:=wq ns L (nI ns k - A)
  have h3:=wq ns L B
  rw [h1] at h3
  rw [h2,fH (sg L) (nI ns k - A) B]
  omega
 rw [e,qeX,show nI ns k - A - B=-(A+B - nI ns k) by omega,Int.dvd_neg]
theorem qeY {k:Nat} (h:seen[k]?=some p):VH W p k∈CL W 0 seen:=aj.mpr ⟨(p,k),List.mem_zipIdx_iff_getElem?.mpr h,rfl⟩
theorem qeZ {c:Ci} (h:c∈CL W 0 seen):∃ (k:Nat) (p:Pr),seen[k]?=some p/\c=VH W p k:=by
 obtain ⟨q,hq,rfl⟩:=aj.mp h
 obtain ⟨p,k⟩:=q
 exact ⟨k,p,List.mem_zipIdx_iff_getElem?.mp hq,rfl⟩
theorem qc5 (p:Pr):oth p p.1=p.2:=by unfold oth; rw [if_pos rfl]
theorem Kp (S:Sn seen W) (hp:p∈seen):(qT W p.1).1=(qT W p.2).1:=by
 obtain ⟨h1,h2⟩:=vU S.a p hp
 obtain ⟨e',he,e1,e2⟩:=S.C _ (jr h1) p hp (.inl rfl)
 simp only [] at e1 e2
 rw [qc5] at e1
 have:=zd S.w.nd he (jr h2) e1
 rw [this] at e2
 exact e2.symm
theorem qbp (S:Sn seen W) (hS:Sol seen r ns v):∀ c∈CL W 0 seen,okS r ns c.2 (v c.1):=by
 intro c hc
 obtain ⟨k,p,hk,rfl⟩:=qeZ hc
 have hp:=aU hk
 obtain ⟨h1,h2⟩:=vU S.a p hp
 have v1:=(S.w.path _ (jr h1)).val hS
 have v2:=(S.w.path _ (jr h2)).val hS
 simp only [] at v1 v2
 rw [<-Kp S hp] at v2
 show okS r ns (VH W p k).2 (v (qT W p.1).1)
 rw [Zo]
 have hs:=hS k p hk
 generalize qM ns (v (qT W p.1).1) (qT W p.1).2=A at v1
 generalize qM ns (v (qT W p.1).1) (qT W p.2).2=B at v2
 have e:A+B - nI ns k=(v p.1+v p.2 - nI ns k) - (v p.1 - A) - (v p.2 - B):=by omega
 rw [e]
 exact c6 (c6 hs v1) v2
noncomputable def vO (W:Wy) (r:Int) (ns:List Int) (σ:Str->Int) (x:Str):Int:=qM ns (σ (qT W x).1) (qT W x).2 % r
theorem qe0 (S:Sn seen W) {σ:Str->Int} (h:∀ c∈CL W 0 seen,okS r ns c.2 (σ c.1)):Sol seen r ns (vO W r ns σ):=by
 intro k p hk
 have hp:=aU hk
 have h1:=h _ (qeY hk)
 have h1:okS r ns (VH W p k).2 (σ (qT W p.1).1):=h1
 rw [Zo] at h1
 unfold vO
 rw [<-Kp S hp]
 generalize qM ns (σ (qT W p.1).1) (qT W p.1).2=A at h1
 generalize qM ns (σ (qT W p.1).1) (qT W p.2).2=B at h1
 have d1:r ∣ A - A % r:=b7
 have d2:r ∣ B - B % r:=b7
 have e:A % r+B % r - nI ns k=(A+B - nI ns k) - (A - A % r) - (B - B % r):=by omega
 rw [e]
 exact c6 (c6 h1 d1) d2
theorem Zp:∀ (C F:List Ci),∀ c∈FO F C,c∈F\/(c∈C/\odd c.2=true)
 | [],F,c,h=>.inl h
 | d::C,F,c,h=>by
  unfold FO at h
  by_cases q:odd d.2=true/\d.1∉kF F
  ·rw [if_pos q] at h
   rcases Zp C _ c h with h | h
   ·rcases ak.mp h with h | h
    ·exact .inl h
    ·rw [am.mp h]
     exact .inr ⟨ah ..,q.1⟩
   ·exact .inr ⟨aa _ h.1,h.2⟩
  ·rw [if_neg q] at h
   rcases Zp C _ c h with h | h
   ·exact .inl h
   ·exact .inr ⟨aa _ h.1,h.2⟩
theorem QW (h:x∈kF F):(x,uA F x)∈F:=by
 unfold uA
 cases q:F.find? fun c=>decide (c.1=x) with
 | none=>
  obtain ⟨e,he,rfl⟩:=aj.mp h
  have:=cR.mp q e he
  simp at this
 | some c=>
  have h1:=bL q
  have h2:c.1=x:=by simpa using fg q
  rw [<-h2]
  exact h1
theorem qaI (h:x∉kF F):uA F x=[]:=by
 unfold uA
 cases q:F.find? fun c=>decide (c.1=x) with
 | none=>rfl
 | some c=>
  have h1:=bL q
  have h2:c.1=x:=by simpa using fg q
  exact absurd (aj.mpr ⟨c,h1,h2⟩) h
theorem Zq (a b:Wk):odd (a++b)=(odd a != odd b):=by
 unfold odd
 rw [ai]
 by_cases h1:a.length % 2=1 <;> by_cases h2:b.length % 2=1
 ·rw [decide_eq_true h1,decide_eq_true h2,decide_eq_false (by omega)]; rfl
 ·rw [decide_eq_true h1,decide_eq_false h2,decide_eq_true (by omega)]; rfl
 ·rw [decide_eq_false h1,decide_eq_true h2,decide_eq_true (by omega)]; rfl
 ·rw [decide_eq_false h1,decide_eq_false h2,decide_eq_false (by omega)]; rfl
theorem ze (h:odd c=false):Yh c r ns=false↔r ∣ qM ns 0 c:=by
 unfold Yh
 rw [h,if_neg bf,Int.dvd_iff_emod_eq_zero]
 simp
theorem Zr (h:odd c=true):Yh c r ns=false↔¬(r % 2=0/\qM ns 0 c % 2=1):=by
 unfold Yh
 rw [h,if_pos rfl]
 simp
theorem qbq (ns:List Int) (f c:Wk) (h:odd c=true):qM ns 0 (f++c)=qM ns 0 c - qM ns 0 f:=by
 rw [wZ,wq,show sg c=-1 by unfold sg; rw [h]; rfl]
 omega
section
abbrev FF (W:Wy) (seen:List Pr):List Ci:=FO [] (CL W 0 seen)
theorem Zs {c:Ci} (h:c∈FF W seen):c∈CL W 0 seen/\odd c.2=true:=by
 rcases Zp _ _ c h with h | h
 ·cases h
 ·exact h
theorem bo_none:BO W seen r ns=none↔∀ c∈CL W 0 seen,(odd c.2=false->r ∣ qM ns 0 c.2)/\(odd c.2=true->¬(r % 2=0/\qM ns 0 c.2 % 2=1)/\r ∣ qM ns 0 c.2 - qM ns 0 (uA (FF W seen) c.1)):=by
 unfold BO
 rw [cR]
 have hk:∀ c∈CL W 0 seen,odd c.2=true->odd (uA (FF W seen) c.1)=true:=fun c hc ho=>(Zs (QW ((ga _ _).2.2.1 c hc ho))).2
 constructor
 ·intro h c hc
  have h1:Yh c.2 r ns=false:=by simpa using h c (ak.mpr (.inl hc))
  refine ⟨fun ho=>(ze ho).mp h1,fun ho=>⟨(Zr ho).mp h1,?_⟩⟩
  have h2:Yh (uA (FF W seen) c.1++c.2) r ns=false:=by
   have:=h (c.1,uA (FF W seen) c.1++c.2) (ak.mpr (.inr (aj.mpr ⟨c,aD.mpr ⟨hc,by simpa using ho⟩,rfl⟩)))
   simpa using this
  rw [ze (by rw [Zq,hk c hc ho,ho]; rfl),qbq _ _ _ ho] at h2
  exact h2
 ·intro h w hw
  rcases ak.mp hw with hw | hw
  ·cases ho:odd w.2 with
   | false=>simpa using (ze ho).mpr ((h w hw).1 ho)
   | true=>simpa using (Zr ho).mpr ((h w hw).2 ho).1
  ·obtain ⟨c,hc,rfl⟩:=aj.mp hw
   obtain ⟨hc,ho⟩:=aD.mp hc
   have ho:odd c.2=true:=by simpa using ho
   have:Yh (uA (FF W seen) c.1++c.2) r ns=false:=by
    rw [ze (by rw [Zq,hk c hc ho,ho]; rfl),qbq _ _ _ ho]
    exact ((h c hc).2 ho).2
   simpa using this
theorem qc6 (S:Sn seen W) (hS:Sol seen r ns v):BO W seen r ns=none:=by
 have hok:=qbp S hS
 rw [bo_none]
 intro c hc
 refine ⟨fun ho=>(QU ho _).mp (hok c hc),fun ho=>?_⟩
 have h1:=(QV ho _).mp (hok c hc)
 have hm:=QW ((ga (CL W 0 seen) []).2.2.1 c hc ho)
 obtain ⟨f1,f2⟩:=Zs hm
 have h2:=(QV f2 _).mp (hok _ f1)
 refine ⟨fun ⟨e1,e2⟩=>?_,?_⟩
 ·obtain ⟨m,hm⟩:=h1
  obtain ⟨j,hj⟩:=dD e1
  rw [hj,eQ] at hm
  omega
 ·simp only [] at h2
  have e:qM ns 0 c.2 - qM ns 0 (uA (FF W seen) c.1)=(qM ns 0 c.2 - 2 * v c.1) - (qM ns 0 (uA (FF W seen) c.1) - 2 * v c.1):=by omega
  rw [e]
  exact c6 h1 h2
end
theorem Zu {t s:Int} (hr:1<=r) (s0:0<=s) (s1:s < r) (hp:¬(r % 2=0/\t % 2=1)):r ∣ t - 2 * s↔s∈(if r % 2=0 then [yL t r,yL t r+r / 2] else [yL t r]):=by
 have h0:0 < r:=by omega
 have t0:=bX t (show r≠0 by omega)
 have t1:=bG t h0
 have hd:r ∣ t - t % r:=b7
 have hpar:r % 2=0->t % r % 2=0:=fun e=>by
  obtain ⟨m,hm⟩:=hd
  obtain ⟨j,hj⟩:=dD e
  have:t % 2=0:=by
   have:=Int.emod_two_eq t
   rcases this with h | h
   ·exact h
   ·exact absurd ⟨e,h⟩ hp
  have e2:r * m=2 * (j * m):=by rw [hj,eQ]
  generalize t % r=u at hm ⊢
  omega
 have key:r ∣ t - 2 * s↔(t % r - 2 * s=0\/t % r - 2 * s=-r):=by
  constructor
  ·intro h
   have h2:r ∣ t % r - 2 * s:=by
    have e:t % r - 2 * s=(t - 2 * s) - (t - t % r):=by omega
    rw [e]
    exact c6 h hd
   generalize t % r=u at *
   by_cases q:2 * s<=u
   ·refine .inl ?_
    have:=cO h2
    rwa [bE (by omega) (by omega)] at this
   ·by_cases q2:2 * s<=u+r
    ·refine .inr ?_
     have h3:r ∣ u - 2 * s+r:=dE h2 ⟨1,by simp⟩
     have:=cO h3
     rw [bE (by omega) (by omega)] at this
     omega
    ·exfalso
     have h3:r ∣ u - 2 * s+r+r:=dE (dE h2 ⟨1,by simp⟩) ⟨1,by simp⟩
     have:=cO h3
     rw [bE (by omega) (by omega)] at this
     omega
  ·intro h
   have e:t - 2 * s=(t - t % r)+(t % r - 2 * s):=by omega
   rw [e]
   refine dE hd ?_
   rcases h with h | h
   ·rw [h]; exact ⟨0,by simp⟩
   ·rw [h]; exact ⟨-1,by simp⟩
 rw [key]
 unfold yL
 by_cases q:r % 2=0
 ·have hu:=hpar q
  rw [if_pos q,if_pos hu]
  generalize t % r=u at *
  simp only [ac,aJ,or_false]
  constructor
  ·rintro (h | h)
   ·exact .inl (by omega)
   ·exact .inr (by omega)
  ·rintro (h | h)
   ·exact .inl (by omega)
   ·exact .inr (by omega)
 ·rw [if_neg q]
  generalize t % r=u at *
  rw [am]
  by_cases q2:u % 2=0
  ·rw [if_pos q2]
   constructor
   ·rintro (h | h) <;> omega
   ·intro h; exact .inl (by omega)
  ·rw [if_neg q2]
   constructor
   ·rintro (h | h) <;> omega
   ·intro h; exact .inr (by omega)
theorem qc7 {t:Int} (hr:1<=r):0<=yL t r/\yL t r < r/\(r % 2=0->t % r % 2=0->yL t r+r / 2 < r):=by
 have t0:=bX t (show r≠0 by omega)
 have t1:=bG t (show 0 < r by omega)
 unfold yL
 generalize t % r=u at *
 split <;> refine ⟨by omega,by omega,fun h h2=>by omega⟩
section
abbrev ch (W:Wy) (seen:List Pr) (r:Int) (ns:List Int) (x:Str):List Int:=rW (uA (FF W seen) x) r ns
theorem qgA (hr:1<=r) (hb:BO W seen r ns=none) (x:Str) (s:Int):s∈ch W seen r ns x↔(0<=s/\s < r)/\∀ c∈CL W 0 seen,c.1=x->okS r ns c.2 s:=by
 have hb':=bo_none.mp hb
 unfold ch rW
 by_cases q:x∈kF (FF W seen)
 ·have hm:=QW q
  obtain ⟨f1,f2⟩:=Zs hm
  simp only [] at f2
  have hne:uA (FF W seen) x≠[]:=fun z=>by rw [z] at f2; exact absurd f2 (by decide)
  have hf:=(hb' _ f1).2 f2
  simp only [] at hf
  rw [if_neg hne]
  have hT:∀ s,(∀ c∈CL W 0 seen,c.1=x->okS r ns c.2 s)↔r ∣ qM ns 0 (uA (FF W seen) x) - 2 * s:=fun s=>by
   constructor
   ·intro h
    exact (QV f2 s).mp (h _ f1 rfl)
   ·intro h c hc he
    cases ho:odd c.2 with
    | false=>exact (QU ho s).mpr ((hb' c hc).1 ho)
    | true=>
     have h1:=((hb' c hc).2 ho).2
     rw [he] at h1
     rw [QV ho]
     have e:qM ns 0 c.2 - 2 * s=(qM ns 0 c.2 - qM ns 0 (uA (FF W seen) x))+(qM ns 0 (uA (FF W seen) x) - 2 * s):=by omega
     rw [e]
     exact dE h1 h
  rw [hT s]
  generalize qM ns 0 (uA (FF W seen) x)=t at hf
  have hin:=qc7 (t:=t) hr
  have hpar:r % 2=0->t % r % 2=0:=fun e=>by
   obtain ⟨m,hm⟩:r ∣ t - t % r:=b7
   obtain ⟨j,hj⟩:=dD e
   have:t % 2=0:=by
    rcases Int.emod_two_eq t with h | h
    ·exact h
    ·exact absurd ⟨e,h⟩ hf.1
   have e2:r * m=2 * (j * m):=by rw [hj,eQ]
   generalize t % r=u at hm ⊢
   omega
  constructor
  ·intro h
   have hs:0<=s/\s < r:=by
    by_cases q2:r % 2=0
    ·rw [if_pos q2] at h
     simp only [ac,aJ,or_false] at h
     have:=hin.2.2 q2 (hpar q2)
     rcases h with rfl | rfl
     ·exact ⟨hin.1,hin.2.1⟩
     ·exact ⟨by omega,this⟩
    ·rw [if_neg q2] at h
     rw [am.mp h]
     exact ⟨hin.1,hin.2.1⟩
   exact ⟨hs,(Zu hr hs.1 hs.2 hf.1).mpr h⟩
  ·rintro ⟨hs,h⟩
   exact (Zu hr hs.1 hs.2 hf.1).mp h
 ·rw [qaI q,if_pos rfl]
  constructor
  ·intro h
   obtain ⟨j,hj,rfl⟩:=aj.mp h
   have:=aL.mp hj
   refine ⟨⟨by omega,by omega⟩,fun c hc he=>?_⟩
   cases ho:odd c.2 with
   | false=>exact (QU ho _).mpr ((hb' c hc).1 ho)
   | true=>
    exact absurd (by rw [<-he]; exact (ga (CL W 0 seen) []).2.2.1 c hc ho) q
  ·rintro ⟨⟨s0,s1⟩,_⟩
   exact aj.mpr ⟨s.toNat,aL.mpr (by omega),by omega⟩
theorem qgB (hr:1<=r) (x:Str):(ch W seen r ns x).Nodup:=by
 unfold ch rW
 split
 ·have:(aF r.toNat).Nodup:=List.nodup_range
  exact eL _ (fun a b h=>by omega) this
 ·split
  ·refine aK.mpr ⟨fun h=>?_,by simp⟩
   have:=am.mp h
   omega
  ·simp
end
abbrev Ln:=List (Str×Int)
noncomputable def evS (r:Int) (x:Str) (rows:List Ln):List Ln:=rows.flatMap fun l=>(aF r.toNat).map fun (j:Nat)=>l++[(x,(j:Int))]
noncomputable def EV (r:Int) (rows:List Ln):List Str->List Ln
 | []=>rows
 | x::L=>EV r (evS r x rows) L
variable {rows:List Ln}
theorem Zv (hr:1<=r) {l:Ln}:l∈evS r x rows↔∃ l0∈rows,∃ i:Int,0<=i/\i < r/\l=l0++[(x,i)]:=by
 unfold evS
 rw [bS]
 constructor
 ·rintro ⟨l0,h0,h⟩
  obtain ⟨j,hj,rfl⟩:=aj.mp h
  have:=aL.mp hj
  exact ⟨l0,h0,j,by omega,by omega,rfl⟩
 ·rintro ⟨l0,h0,i,i0,i1,rfl⟩
  exact ⟨l0,h0,aj.mpr ⟨i.toNat,aL.mpr (by omega),by rw [Int.toNat_of_nonneg i0]⟩⟩
theorem qbr (hr:1<=r):∀ (L:List Str) (rows:List Ln) (l:Ln),l∈EV r rows L↔∃ l0∈rows,∃ m:Ln,l=l0++m/\kh m=L/\∀ e∈m,0<=e.2/\e.2 < r
 | [],rows,l=>by
  constructor
  ·intro h
   exact ⟨l,h,[],by simp,rfl,by simp⟩
  ·rintro ⟨l0,h0,m,rfl,hk,_⟩
   have:m=[]:=by cases m with
    | nil=>rfl
    | cons a m=>cases hk
   subst this
   rw [aZ]
   exact h0
 | x::L,rows,l=>by
  show l∈EV r (evS r x rows) L↔_
  rw [qbr hr L]
  constructor
  ·rintro ⟨l1,h1,m,rfl,hk,hm⟩
   obtain ⟨l0,h0,i,i0,i1,rfl⟩:=(Zv hr).mp h1
   refine ⟨l0,h0,(x,i)::m,by simp,by simp [kh] at hk ⊢; exact hk,fun e he=>?_⟩
   rcases ac.mp he with rfl | he
   ·exact ⟨i0,i1⟩
   ·exact hm e he
  ·rintro ⟨l0,h0,m,rfl,hk,hm⟩
   cases m with
   | nil=>cases hk
   | cons a m=>
    obtain ⟨y,i⟩:=a
    have hk:y::kh m=x::L:=hk
    injection hk with h1 h2
    subst h1
    have:=hm (y,i) (ah ..)
    exact ⟨l0++[(y,i)],(Zv hr).mpr ⟨l0,h0,i,this.1,this.2,rfl⟩,m,by simp,h2,fun e he=>hm e (aa _ he)⟩
theorem qe1 (h:rows.Nodup):(evS r x rows).Nodup:=by
 unfold evS
 unfold aR
 rw [List.pairwise_flatMap]
 constructor
 ·intro l hl
  have:(aF r.toNat).Nodup:=List.nodup_range
  exact eL _ (fun a b h=>fun z=>by
   have:=List.append_cancel_left z
   simp at this
   exact h (by omega)) this
 ·refine eM (fun {a b} hab=>?_) h
  intro y hy z hz e
  obtain ⟨i,_,rfl⟩:=aj.mp hy
  obtain ⟨j,_,rfl⟩:=aj.mp hz
  exact hab (List.append_inj_left' e rfl)
theorem qc8:∀ (L:List Str) (rows:List Ln),rows.Nodup->(EV r rows L).Nodup
 | [],rows,h=>h
 | x::L,rows,h=>qc8 L _ (qe1 h)
abbrev EV0 (r:Int) (L:List Str):List Ln:=EV r [[]] L
theorem VN (hr:1<=r) {L:List Str} {l:Ln}:l∈EV0 r L↔kh l=L/\∀ e∈l,0<=e.2/\e.2 < r:=by
 rw [qbr hr]
 constructor
 ·rintro ⟨l0,h0,m,rfl,h⟩
  rw [am.mp h0,dg]
  exact h
 ·intro h
  exact ⟨[],am.mpr rfl,l,rfl,h⟩
theorem ki (f:Str->Int):∀ {L:List Str} {x:Str},x∈L->jo (L.map fun x=>(x,f x)) x=f x
 | [],x,h=>by cases h
 | y::L,x,h=>by
  unfold jo
  rw [aC]
  by_cases q:y=x
  ·subst q
   rw [bH (by simp)]
   rfl
  ·rw [bw (by simpa using q)]
   rcases ac.mp h with h | h
   ·exact absurd h.symm q
   ·exact ki f h
theorem uU:∀ {l:Ln},(kh l).Nodup->l=(kh l).map fun x=>(x,jo l x)
 | [],_=>rfl
 | (y,i)::l,h=>by
  have hn:=aK.mp (show (y::kh l).Nodup from h)
  have ih:=uU hn.2
  show (y,i)::l=(y,jo ((y,i)::l) y)::(kh l).map fun x=>(x,jo ((y,i)::l) x)
  have e1:jo ((y,i)::l) y=i:=by unfold jo; rw [bH (by simp)]; rfl
  have e2:((kh l).map fun x=>(x,jo ((y,i)::l) x))=(kh l).map fun x=>(x,jo l x):=by
   refine bC fun x hx=>?_
   have:y≠x:=fun z=>hn.1 (z ▸ hx)
   show (x,jo ((y,i)::l) x)=_
   unfold jo
   rw [bw (by simpa using this)]
  rw [e1,e2,<-ih]
theorem wt (f:Str->Int) (L:List Str):kh (L.map fun x=>(x,f x))=L:=by
 unfold kh
 rw [bo]
 exact e6 L
theorem zf {α:Type} [DecidableEq α]:∀ {a b:List α},a.Nodup->(∀ x∈a,x∈b)->a.length<=b.length
 | [],b,_,_=>bB _
 | x::a,b,hn,h=>by
  have hn2:=aK.mp hn
  have hx:=h x (ah ..)
  have ih:=zf (b:=b.erase x) hn2.2 fun y hy=>(List.mem_erase_of_ne (fun z=>hn2.1 (by rw [<-z]; exact hy))).mpr (h y (aa _ hy))
  rw [List.length_erase_of_mem hx] at ih
  have:=cm hx
  rw [ap]
  omega
variable {β:Type}
theorem QX [DecidableEq β] {A:List α} {B:List β} (f:α->β) (hA:A.Nodup) (hf:∀ a∈A,f a∈B) (hi:∀ a∈A,∀ b∈A,f a=f b->a=b):A.length<=B.length:=by
 have hm:(A.map f).Nodup:=by
  unfold aR
  rw [cV]
  refine List.Pairwise.imp_of_mem (fun {a b} ha hb hab=>fun z=>hab (hi a ha b hb z)) hA
 have:=zf hm (b:=B) fun x hx=>by
  obtain ⟨a,ha,rfl⟩:=aj.mp hx
  exact hf a ha
 rwa [au] at this
noncomputable def PV (c:Str->List Int):List Str->List Ln
 | []=>[[]]
 | x::R=>(c x).flatMap fun s=>(PV c R).map fun l=>(x,s)::l
theorem Uc {γ:Type} (P:List β) (g:α->β->γ):∀ c:List α,(c.flatMap fun s=>P.map (g s)).length=c.length * P.length
 | []=>by simp
 | a::c=>by
  rw [dL,ai,Uc P g c,au,ap,Nat.succ_mul]
  omega
theorem qbs (c:Str->List Int):∀ (R:List Str) (t:Int),(R.map fun x=>((x,c x):Rt)).foldl (fun a x=>a * (x.2.length:Int)) t=t * ((PV c R).length:Int)
 | [],t=>by simp [PV]
 | x::R,t=>by
  rw [aC,d5,qbs c R,show PV c (x::R)=(c x).flatMap fun s=>(PV c R).map fun l=>(x,s)::l from rfl,Uc,Int.natCast_mul,eQ]
theorem gc (c:Str->List Int):∀ {R:List Str} {l:Ln},l∈PV c R↔kh l=R/\∀ e∈l,e.2∈c e.1
 | [],l=>by
  constructor
  ·intro h
   rw [am.mp h]
   exact ⟨rfl,by simp⟩
  ·rintro ⟨h,_⟩
   cases l with
   | nil=>exact am.mpr rfl
   | cons a l=>cases h
 | x::R,l=>by
  unfold PV
  rw [bS]
  constructor
  ·rintro ⟨s,hs,h⟩
   obtain ⟨l',hl,rfl⟩:=aj.mp h
   obtain ⟨h1,h2⟩:=(gc c).mp hl
   refine ⟨by show x::kh l'=_; rw [h1],fun e he=>?_⟩
   rcases ac.mp he with rfl | he
   ·exact hs
   ·exact h2 e he
  ·rintro ⟨h1,h2⟩
   cases l with
   | nil=>cases h1
   | cons a l=>
    obtain ⟨y,s⟩:=a
    have h1:y::kh l=x::R:=h1
    injection h1 with h3 h4
    subst h3
    exact ⟨s,h2 _ (ah ..),aj.mpr ⟨l,(gc c).mpr ⟨h4,fun e he=>h2 e (aa _ he)⟩,rfl⟩⟩
theorem qe2 (c:Str->List Int) (hc:∀ x,(c x).Nodup):∀ R:List Str,(PV c R).Nodup
 | []=>by simp [PV]
 | x::R=>by
  unfold PV
  unfold aR
  rw [List.pairwise_flatMap]
  constructor
  ·intro s hs
   exact eL _ (fun a b h=>fun z=>by injection z with _ z; exact h z) (qe2 c hc R)
  ·refine eM (fun {a b} hab=>?_) (hc x)
   intro y hy z hz e
   obtain ⟨l,_,rfl⟩:=aj.mp hy
   obtain ⟨m,_,rfl⟩:=aj.mp hz
   injection e with e _
   injection e with _ e
   exact hab e
section
theorem QY (hn:qE seen.length r ns) (l:Ln):jA l seen r=ns↔Sol seen r ns (jo l):=by
 have hk:∀ k p,seen[k]?=some p->∃ i,ns[k]?=some i/\nI ns k=i/\0<=i/\i < r:=fun k p h=>by
  have hlt:k < ns.length:=by rw [hn.1]; exact (aA.mp h).1
  refine ⟨ns[k],af hlt,by unfold nI; rw [af hlt]; rfl,hn.2 _ (bq hlt)⟩
 constructor
 ·intro h k p hp
  obtain ⟨i,e1,e2,i0,i1⟩:=hk k p hp
  rw [<-h] at e1
  unfold jA at e1
  rw [aG,hp] at e1
  have e1:(jo l p.1+jo l p.2) % r=i:=by simpa using e1
  rw [e2]
  apply mod_iff.mp
  rw [e1,bE i0 i1]
 ·intro h
  apply dJ
  intro k
  unfold jA
  rw [aG]
  cases hp:seen[k]? with
  | none=>
   have:ns[k]?=none:=by
    rw [bI] at hp ⊢
    rw [hn.1]
    exact hp
   rw [this]
   rfl
  | some p=>
   obtain ⟨i,e1,e2,i0,i1⟩:=hk k p hp
   have:=mod_iff.mpr (h k p hp)
   rw [e2,bE i0 i1] at this
   rw [e1,<-this]
   rfl
theorem VO (S:Sn seen W) (hy:y∈kW W):(qT W y).1∈kW W/\qT W (qT W y).1=((qT W y).1,[]):=by
 have h1:=S.R _ (jr hy)
 have h2:(qT W y).1∈kW W:=aj.mpr ⟨_,h1,rfl⟩
 have:=zd S.w.nd (jr h2) h1 rfl
 refine ⟨h2,?_⟩
 injection this
theorem mem_RT:x∈RT W↔x∈kW W/\(qT W x).1=x:=by
 unfold RT
 rw [aD,(qX _).mem_iff]
 simp
theorem qe3 (S:Sn seen W):(RT W).Nodup:=((qX _).nodup_iff.mpr S.w.nd).filter _
theorem Zw (S:Sn seen W) (hr:1<=r) (hn:qE seen.length r ns):HM W seen r ns=(((EV0 r (LS seen)).filter fun l=>decide (jA l seen r=ns)).length:Int)/\(BO W seen r ns=none↔0 < ((EV0 r (LS seen)).filter fun l=>decide (jA l seen r=ns)).length):=by
 have hA:∀ l,l∈(EV0 r (LS seen)).filter (fun l=>decide (jA l seen r=ns))↔(kh l=LS seen/\∀ e∈l,0<=e.2/\e.2 < r)/\Sol seen r ns (jo l):=fun l=>by
  rw [aD,VN hr,decide_eq_true_eq,QY hn]
 have hAn:((EV0 r (LS seen)).filter fun l=>decide (jA l seen r=ns)).Nodup:=(qc8 _ _ (by simp)).filter _
 generalize (EV0 r (LS seen)).filter (fun l=>decide (jA l seen r=ns))=A at hA hAn
 have hval:∀ l∈A,∀ x∈LS seen,0<=jo l x/\jo l x < r:=fun l hl x hx=>by
  obtain ⟨⟨h1,h2⟩,_⟩:=(hA l).mp hl
  exact h2 _ (xo (by rw [h1]; exact hx)).1
 unfold HM
 cases hb:BO W seen r ns with
 | some c=>
  have:A=[]:=by
   cases A with
   | nil=>rfl
   | cons l A=>
    have:=qc6 S ((hA l).mp (ah ..)).2
    rw [hb] at this
    cases this
  rw [this]
  simp
 | none=>
  have hch:=qgA hr hb
  have hRL:∀ x∈RT W,x∈LS seen:=fun x hx=>S.w.sub x (mem_RT.mp hx).1
  have hCk:∀ c∈CL W 0 seen,c.1∈RT W:=fun c hc=>by
   obtain ⟨k,p,hk,rfl⟩:=qeZ hc
   have hp:=(vU S.a p (aU hk)).1
   obtain ⟨h1,h2⟩:=VO S hp
   exact mem_RT.mpr ⟨h1,by show (qT W (qT W p.1).1).1=_; rw [h2]; rfl⟩
  have le1:A.length<=(PV (ch W seen r ns) (RT W)).length:=by
   refine QX (fun l=>(RT W).map fun x=>(x,jo l x)) hAn (fun l hl=>?_) (fun a ha b hb2 e=>?_)
   ·refine (gc _).mpr ⟨wt _ _,fun e he=>?_⟩
    obtain ⟨x,hx,rfl⟩:=aj.mp he
    refine (hch x _).mpr ⟨hval l hl x (hRL x hx),fun c hc hcx=>?_⟩
    have:=qbp S ((hA l).mp hl).2 c hc
    rw [hcx] at this
    exact this
   ·obtain ⟨⟨a1,a2⟩,a3⟩:=(hA a).mp ha
    obtain ⟨⟨b1,b2⟩,b3⟩:=(hA b).mp hb2
    have hroot:∀ x∈RT W,jo a x=jo b x:=fun x hx=>by
     have h1:=ki (jo a) hx
     have h2:=ki (jo b) hx
     rw [<-h1,<-h2]
     exact congrArg (fun l=>jo l x) e
    have hall:∀ y∈LS seen,jo a y=jo b y:=fun y hy=>by
     have hyk:=S.a y hy
     obtain ⟨r1,r2⟩:=VO S hyk
     have hr':(qT W y).1∈RT W:=mem_RT.mpr ⟨r1,by rw [r2]⟩
     have v1:=(S.w.path _ (jr hyk)).val a3
     have v2:=(S.w.path _ (jr hyk)).val b3
     simp only [] at v1 v2
     rw [hroot _ hr'] at v1
     have h1:=hval a ha y hy
     have h2:=hval b hb2 y hy
     refine qaH ?_ h1.1 h1.2 h2.1 h2.2
     have e1:jo a y - jo b y=(jo a y - qM ns (jo b (qT W y).1) (qT W y).2) - (jo b y - qM ns (jo b (qT W y).1) (qT W y).2):=by omega
     rw [e1]
     exact c6 v1 v2
    have hnd:(kh a).Nodup:=by rw [a1]; exact Zn _
    have hnd2:(kh b).Nodup:=by rw [b1]; exact Zn _
    rw [uU hnd,uU hnd2,a1,b1]
    exact bC fun y hy=>by rw [hall y hy]
  have le2:(PV (ch W seen r ns) (RT W)).length<=A.length:=by
   refine QX (fun l=>(LS seen).map fun x=>(x,vO W r ns (jo l) x)) (qe2 _ (fun x=>qgB hr x) _) (fun l hl=>?_) (fun a ha b hb2 e=>?_)
   ·obtain ⟨l1,l2⟩:=(gc _).mp hl
    have hok:∀ c∈CL W 0 seen,okS r ns c.2 (jo l c.1):=fun c hc=>by
     have:=l2 _ (xo (by rw [l1]; exact hCk c hc)).1
     exact ((hch _ _).mp this).2 c hc rfl
    have hs:=qe0 S hok
    refine (hA _).mpr ⟨⟨wt _ _,fun e he=>?_⟩,fun k p hk=>?_⟩
    ·obtain ⟨x,_,rfl⟩:=aj.mp he
     exact ⟨bX _ (by omega),bG _ (by omega)⟩
    ·have hp:=aU hk
     have m1:p.1∈LS seen:=mem_LS.mpr ⟨p,hp,.inl rfl⟩
     have m2:p.2∈LS seen:=mem_LS.mpr ⟨p,hp,.inr rfl⟩
     rw [ki (vO W r ns (jo l)) m1,ki (vO W r ns (jo l)) m2]
     exact hs k p hk
   ·obtain ⟨a1,a2⟩:=(gc _).mp ha
    obtain ⟨b1,b2⟩:=(gc _).mp hb2
    have hrt:∀ x∈RT W,jo a x=jo b x:=fun x hx=>by
     have m:=hRL x hx
     have h1:=ki (vO W r ns (jo a)) m
     have h2:=ki (vO W r ns (jo b)) m
     have h3:vO W r ns (jo a) x=vO W r ns (jo b) x:=by
      rw [<-h1,<-h2]
      exact congrArg (fun l=>jo l x) e
     obtain ⟨k1,k2⟩:=mem_RT.mp hx
     obtain ⟨_,r2⟩:=VO S k1
     rw [k2] at r2
     unfold vO at h3
     rw [r2] at h3
     have h3:jo a x % r=jo b x % r:=h3
     have c1:=((hch x _).mp (a2 _ (xo (by rw [a1]; exact hx)).1)).1
     have c2:=((hch x _).mp (b2 _ (xo (by rw [b1]; exact hx)).1)).1
     rwa [bE c1.1 c1.2,bE c2.1 c2.2] at h3
    have hnd:(kh a).Nodup:=by rw [a1]; exact qe3 S
    have hnd2:(kh b).Nodup:=by rw [b1]; exact qe3 S
    rw [uU hnd,uU hnd2,a1,b1]
    exact bC fun y hy=>by rw [hrt y hy]
  have heq:A.length=(PV (ch W seen r ns) (RT W)).length:=d4 le1 le2
  have hpos:0 < (PV (ch W seen r ns) (RT W)).length:=by
   have hl:((RT W).map fun x=>(x,((ch W seen r ns x).head?).getD 0))∈PV (ch W seen r ns) (RT W):=(gc _).mpr ⟨wt _ _,fun e he=>by
    obtain ⟨x,_,rfl⟩:=aj.mp he
    show ((ch W seen r ns x).head?).getD 0∈ch W seen r ns x
    have hne:ch W seen r ns x≠[]:=by
     unfold ch rW
     split
     ·intro z
      have:=congrArg fj z
      simp at this
      omega
     ·split <;> simp
    cases hc:ch W seen r ns x with
    | nil=>exact absurd hc hne
    | cons a l=>exact ah ..⟩
   exact cm hl
  refine ⟨?_,fun _=>by rw [heq]; exact hpos,fun _=>rfl⟩
  have:=qbs (ch W seen r ns) (RT W) 1
  rw [fI,<-heq] at this
  exact this
end
noncomputable def sub (l:List α) (ks:Wk):List α:=ks.filterMap fun k=>l[k]?
noncomputable def kept (n:Nat) (g:Wk):Wk:=(aF n).filter fun k=>decide (k∉g)
abbrev gD (g:Wk):D:=.tup (inL g)
theorem QZ {l:List α} {ks:Wk} {x:α} (h:x∈sub l ks):x∈l:=by
 obtain ⟨k,_,hk⟩:=dh.mp h
 exact aU hk
theorem zg {l:List α} {k:Nat} {x:α} (h:l[k]?=some x) (ks:Wk):sub l (k::ks)=x::sub l ks:=by
 unfold sub
 rw [cI h]
theorem kj (l:List α):∀ ks:Wk,(∀ k∈ks,k < l.length)->(sub l ks).length=ks.length
 | [],_=>rfl
 | k::ks,h=>by
  have hk:=h k (ah ..)
  rw [zg (af hk),ap,kj l ks (fun j hj=>h j (aa _ hj)),ap]
variable {g:Wk}
theorem VP:∀ k∈kept n g,k < n:=fun k hk=>aL.mp (aD.mp hk).1
theorem Ud (n:Nat) (g:Wk):(kept n g).length<=n:=by
 have:=b6 (fun k=>decide (k∉g)) (aF n)
 rw [bD] at this
 exact this
theorem Kq (k:Nat):∀ g:Wk,gY 7 (.int (k:Nat)) (inL g)=some (decide (k∈g))
 | []=>by simp [gY,inL]
 | a::g=>by
  have ih:=Kq k g
  simp only [inL,aC,gY] at ih ⊢
  rw [ih]
  by_cases h:a=k
  ·subst h; simp [eqN,eqS]
  ·have h2:¬(a:Int)=(k:Int):=by omega
   have h3:¬k=a:=fun z=>h z.symm
   simp [eqN,eqS,h2,h3]
theorem Ue (k:Nat) (g:Wk):xT (.int (k:Nat)) (gD g)=.ok (.bl (!decide (k∈g))):=by
 show (inD (.int (k:Nat)) (gD g)).bind (fun b=>Out.ok (D.bl (!b)))=_
 unfold inD
 simp only [Kq]
 rfl
theorem qe4 {k:Nat} (h:seen[k]?=some p):ixD (sD seen) (.int (k:Nat))=.ok (pD p):=by
 unfold ixD
 simp only []
 unfold jY
 rw [vD,aG,h]
 rfl
noncomputable def slv (r:Int) (seen:List Pr) (ns:List Int):List Ln:=(EV0 r (LS seen)).filter fun l=>decide (jA l seen r=ns)
noncomputable def okB (r:Int) (seen:List Pr) (ns:List Int) (g:Wk):Bool:=decide (0 < (slv r (sub seen (kept seen.length g)) (sub ns (kept seen.length g))).length)
theorem qgC (l:List Pr):(LS l).length<=2 * l.length:=by
 have:=VF (a:=LS l) (b:=l.map (·.1)++l.map (·.2)) (Zn l) fun x hx=>by
  obtain ⟨p,hp,h⟩:=mem_LS.mp hx
  rcases h with rfl | rfl
  ·exact ak.mpr (.inl (aj.mpr ⟨p,hp,rfl⟩))
  ·exact ak.mpr (.inr (aj.mpr ⟨p,hp,rfl⟩))
 rw [ai,au,au] at this
 omega
theorem qbt (S:Sn seen W) (ks:Wk) (hk:ks.length<=6):∃ W',Sn (sub seen ks) W':=by
 have hn:(sub seen ks).length<=6:=by
  unfold sub
  exact bc (List.length_filterMap_le ..) hk
 have hs:(LS (sub seen ks)).length<=12:=by have:=qgC (sub seen ks); omega
 obtain ⟨W',a,b,c,d,e⟩:=gQ hn hs
 exact ⟨W',hn,hs,a,b,c,d,e,fun x hx=>by
  obtain ⟨p,hp,h⟩:=mem_LS.mp hx
  exact S.z x (mem_LS.mpr ⟨p,QZ hp,h⟩)⟩
theorem qe5 (S:Sn seen W) (hr:1<=r) (hn:qE seen.length r ns) (g:Wk) (hg:g.length<=2000) :
  qZ [sD seen,.int r,nD ns,gD g]=.ok (.bl (okB r seen ns g),[.non,.non,.non,.non]):=by
 have h6:=S.n
 have hkl:=Ud seen.length g
 have hlt:=VP (n:=seen.length) (g:=g)
 have hri:kx (d1 jF (qe 0)) [some (sD seen),some (.int r),some (nD ns),some (gD g),none]=.ok ((aF seen.length).map fun (j:Nat)=>.int j,[some (sD seen),some (.int r),some (nD ns),some (gD g),none]):=by
  rw [iR0 (k:=(seen.length:Int)) (ρ1:=[some (sD seen),some (.int r),some (nD ns),some (gD g),none]) (by omega) (by omega) (by simp [jF,jY]),cB]
  simp [xQ]
 have c1:=WV (own:=[]) (cap:=[3]) (fi:=kx (d1 jF (qe 0))) (ft:=je (d2 xT (qe 0) (qe 1))) (fe:=qe 0) (fun d=>match d with | .int i=>decide (i.toNat∉g) | _=>false) (fun d=>d) (by simp) hri (by simp; exact jz (by omega)) (fun d hd=>by
  obtain ⟨j,hj,rfl⟩:=aj.mp hd
  have:=Ue j g
  simp [this]) (fun d hd _=>by simp)
 have e1:(((aF seen.length).map fun (j:Nat)=>D.int j).filter fun d=>match d with | .int i=>decide (i.toNat∉g) | _=>false).map (fun d=>d)=inL (kept seen.length g):=by
  rw [e6,d6]
  unfold inL kept
  congr 1
 rw [e1] at c1
 generalize hks:kept seen.length g=ks at c1 hkl hlt
 have c2:=uE (cap:=[0]) (fi:=km (qe 4)) (fe:=d2 ixD (qe 1) (qe 0)) (ρ:=[some (sD seen),some (.int r),some (nD ns),some (gD g),some (.lst (inL ks))]) (ρ1:=[some (sD seen),some (.int r),some (nD ns),some (gD g),some (.lst (inL ks))]) (ds:=inL ks) (fun d=>match d with | .int i=>pD ((seen[i.toNat]?).getD (⟨#[]⟩,⟨#[]⟩)) | d=>d) (by simp [jL]) (by rw [wp]; exact jz (by omega)) (fun d hd=>by
  obtain ⟨j,hj,rfl⟩:=aj.mp hd
  have hjl:=hlt j hj
  have:=qe4 (af hjl)
  simp [this,af hjl])
 have e2:(inL ks).map (fun d=>match d with | .int i=>pD ((seen[i.toNat]?).getD (⟨#[]⟩,⟨#[]⟩)) | d=>d)=jY (sub seen ks):=by
  unfold inL jY sub
  rw [bo,eB]
  have:∀ l:Wk,(∀ k∈l,k < seen.length)->l.map ((fun d=>match d with | .int i=>pD ((seen[i.toNat]?).getD (⟨#[]⟩,⟨#[]⟩)) | d=>d) ∘ fun (k:Nat)=>D.int (k:Nat))=l.filterMap fun k=>(seen[k]?).map fun x=>.tup [.str x.1,.str x.2]:=fun l=>by
   induction l with
   | nil=>intro _; rfl
   | cons k l ih=>
    intro h
    have hk:=h k (ah ..)
    rw [aC,ih (fun j hj=>h j (aa _ hj)),cI (by rw [af hk]; rfl)]
    simp [af hk]
  exact this ks hlt
 rw [e2] at c2
 have c3:=uE (cap:=[2]) (fi:=km (qe 4)) (fe:=d2 ixD (qe 1) (qe 0)) (ρ:=[some (sD seen),some (.int r),some (nD ns),some (gD g),some (.lst (inL ks))]) (ρ1:=[some (sD seen),some (.int r),some (nD ns),some (gD g),some (.lst (inL ks))]) (ds:=inL ks) (fun d=>match d with | .int i=>.int (nI ns i.toNat) | d=>d) (by simp [jL]) (by rw [wp]; exact jz (by omega)) (fun d hd=>by
  obtain ⟨j,hj,rfl⟩:=aj.mp hd
  have:=qbi (ns:=ns) (k:=j) (by rw [hn.1]; exact hlt j hj)
  simp [this])
 have e3:(inL ks).map (fun d=>match d with | .int i=>D.int (nI ns i.toNat) | d=>d)=(sub ns ks).map D.int:=by
  unfold inL sub
  rw [bo,eB]
  have:∀ l:Wk,(∀ k∈l,k < ns.length)->l.map ((fun d=>match d with | .int i=>D.int (nI ns i.toNat) | d=>d) ∘ fun (k:Nat)=>D.int (k:Nat))=l.filterMap fun k=>(ns[k]?).map D.int:=fun l=>by
   induction l with
   | nil=>intro _; rfl
   | cons k l ih=>
    intro h
    have hk:=h k (ah ..)
    rw [aC,ih (fun j hj=>h j (aa _ hj)),cI (by rw [af hk]; rfl)]
    simp [nI,af hk]
  exact this ks fun k hk=>by rw [hn.1]; exact hlt k hk
 rw [e3] at c3
 obtain ⟨W',S'⟩:=qbt S ks (by omega)
 have hn':qE (sub seen ks).length r (sub ns ks):=⟨by rw [kj seen ks hlt,kj ns ks (fun k hk=>by rw [hn.1]; exact hlt k hk)],fun i hi=>hn.2 i (QZ hi)⟩
 have hb:=gb S' (WW (sub ns ks)) hn'.1 hr
 obtain ⟨_,cnt⟩:=Zw S' hr hn'
 have hbo:qZ [sD seen,.int r,nD ns,gD g]=.ok (.bl (decide (BO W' (sub seen ks) r (sub ns ks)=none)),[.non,.non,.non,.non]):=by
  refine runD_ap.trans ?_
  unfold kf
  rw [show qw qY [sD seen,.int r,nD ns,gD g]=[some (sD seen),some (.int r),some (nD ns),some (gD g),none] from rfl]
  refine (qB (ρ1:=[some (sD seen),some (.int r),some (nD ns),some (gD g),some (.lst (inL ks))]) (by rw [yW,c1]; rfl)).trans ?_
  cases q:BO W' (sub seen ks) r (sub ns ks) with
  | none=>
   rw [q] at hb
   simp [c2,c3,qy,jl,hb,qcb,qv]
  | some c=>
   rw [q] at hb
   simp [c2,c3,qy,jl,hb,qcb,cd,qv]
 have e5:okB r seen ns g=decide (BO W' (sub seen ks) r (sub ns ks)=none):=by
  unfold okB slv
  rw [hks]
  exact (decide_eq_decide.mpr cnt).symm
 rw [hbo,e5]
noncomputable def stt (g:Wk):Nat:=match g.getLast? with
 | some k=>k+1
 | none=>0
noncomputable def OL1 (n:Nat) (g:Wk):List Wk:=(fJ (stt g) (n - stt g)).map fun k=>g++[k]
noncomputable def OL (n:Nat) (cs:List Wk):List Wk:=cs.flatMap (OL1 n)
noncomputable def gR (cs:List Wk):List D:=cs.map gD
theorem iR2 {fa fb:Sl->Out (D×Sl)} {i j:Int} (h0:-100<=i) (h1:i<=1000) (k0:-100<=j) (k1:j<=1000) (h:fa ρ=.ok (.int i,ρ1)) (h':fb ρ1=.ok (.int j,ρ2)):yX fa fb ρ=.ok (xQ i (j - i).toNat,ρ2):=by
 have c1:qab i j:=⟨⟨by omega,by omega⟩,by omega,by omega⟩
 simp [yX,h,h',c1]
abbrev olB:Sl->Out (Fl×Sl):=(ji (kb 4 (dIf (je (d2 gtD (d1 jF (qe 3)) (dC (.int 0)))) (d2 jJ (d2 ixD (qe 3) (d1 qek (dC (.int 1)))) (dC (.int 1))) (dC (.int 0))))
  (wC (KZ 2 qfp (ju [2] 1 [3] (yX (qe 4) (qe 1)) (gNm 0) ftT (d2 jJ (qe 1) (zm (qd (qe 0) qH)))))))
theorem qc9 (g:Wk) (k:Nat):ixD (gD (g++[k])) (.int (-1))=.ok (.int (k:Nat)):=by
 unfold ixD
 simp only []
 unfold atI ixN
 rw [wp,ai]
 simp only [ap,ba]
 rw [if_neg (by omega),if_pos (by omega)]
 have:(-1+((g.length+(0+1):Nat):Int)).toNat=g.length:=by omega
 rw [this]
 simp [inL]
theorem qda (hn:n<=6) (g:Wk) (hg:g.length<=50) (hb:∀ k∈g,k < n) (acc:List Wk) (ha:acc.length<=1000000) (a x4:Option D) :
  ∃ y4,olB [a,some (.int (n:Nat)),some (.lst (gR acc)),some (gD g),x4]=.ok (.nx,[a,some (.int (n:Nat)),some (.lst (gR (acc++OL1 n g))),some (gD g),y4]):=by
 have z1:1<=sizeLine:=jz (by omega)
 have hst:stt g<=n:=by
  unfold stt
  cases q:g.getLast? with
  | none=>simp
  | some k=>
   have:=hb k (List.mem_of_getLast? q)
   simp
   omega
 have e4:dIf (je (d2 gtD (d1 jF (qe 3)) (dC (.int 0)))) (d2 jJ (d2 ixD (qe 3) (d1 qek (dC (.int 1)))) (dC (.int 1))) (dC (.int 0)) [a,some (.int (n:Nat)),some (.lst (gR acc)),some (gD g),x4]=.ok (.int (stt g:Nat),[a,some (.int (n:Nat)),some (.lst (gR acc)),some (gD g),x4]):=by
  unfold stt
  cases q:g.getLast? with
  | none=>
   have hg0:g=[]:=List.getLast?_eq_none_iff.mp q
   subst hg0
   simp [inL,jF,gtD,uy]
  | some k=>
   obtain ⟨g',rfl⟩:=List.getLast?_eq_some_iff.mp q
   have hl:=qc9 g' k
   have hlen:jF (gD (g'++[k]))=.ok (.int ((g'.length+1:Nat):Int)):=by simp [jF,inL]
   have hpos:(0:Int) < ((g'.length+1:Nat):Int):=by omega
   generalize gD (g'++[k])=gd at hl hlen
   simp [hlen,gtD,uy,qek,hl,jJ]
 refine ⟨some (.int (stt g:Nat)),?_⟩
 unfold olB
 rw [qbm (ρ1:=[a,some (.int (n:Nat)),some (.lst (gR acc)),some (gD g),some (.int (stt g:Nat))]) (by rw [yW,e4]; rfl)]
 have hri:=iR2 (fa:=qe 4) (fb:=qe 1) (ρ:=[a,some (.int (n:Nat)),some (.lst (gR acc)),some (gD g),some (.int (stt g:Nat))]) (ρ1:=[a,some (.int (n:Nat)),some (.lst (gR acc)),some (gD g),some (.int (stt g:Nat))]) (ρ2:=[a,some (.int (n:Nat)),some (.lst (gR acc)),some (gD g),some (.int (stt g:Nat))]) (i:=(stt g:Nat)) (j:=(n:Nat)) (by omega) (by omega) (by omega) (by omega) rfl rfl
 have hr2:xQ (stt g:Nat) (((n:Nat):Int) - (stt g:Nat)).toNat=(fJ (stt g) (n - stt g)).map fun (k:Nat)=>D.int (k:Nat):=by
  unfold xQ
  rw [List.range'_eq_map_range,bo,show (((n:Nat):Int) - (stt g:Nat)).toNat=n - stt g by omega]
  refine bC fun k _=>?_
  show D.int ((stt g:Nat)+(k:Nat))=D.int ((stt g+k:Nat):Int)
  rw [Int.natCast_add]
 rw [hr2] at hri
 have hz:g.length+1<=sizeLine:=jz (by omega)
 have c1:=QO (own:=[2]) (cap:=[3]) (fi:=yX (qe 4) (qe 1)) (fe:=d2 jJ (qe 1) (zm (qd (qe 0) qH))) (fun d=>match d with | .int k=>.tup (inL g++[.int k]) | d=>d) (by decide) hri (by rw [au,List.length_range']; exact jz (by omega)) (fun d hd=>by
  obtain ⟨j,hj,rfl⟩:=aj.mp hd
  have hz2:(inL g).length+1<=sizeLine:=by rw [wp]; exact hz
  simp [jJ,z1,hz2])
 have e1:((fJ (stt g) (n - stt g)).map fun (k:Nat)=>D.int (k:Nat)).map (fun d=>match d with | .int k=>.tup (inL g++[.int k]) | d=>d)=gR (OL1 n g):=by
  unfold gR OL1
  rw [bo,bo]
  refine bC fun k _=>?_
  show D.tup (inL g++[.int (k:Nat)])=gD (g++[k])
  simp [inL]
 rw [e1] at c1
 have hs:(gR acc).length+(gR (OL1 n g)).length<=sizeLine:=by
  have:(OL1 n g).length<=6:=by simp [OL1]; omega
  unfold gR
  rw [au,au]
  exact bc (by omega) (show 1100000<=sizeLine by rw [sizeLine_eq]; decide)
 have hA:gR (acc++OL1 n g)=gR acc++gR (OL1 n g):=by simp [gR]
 rw [hA]
 generalize gR (OL1 n g)=G at c1 hs
 have hi:yU ([a,some (.int (n:Nat)),some (.lst (gR acc)),some (gD g),some (.int (stt g:Nat))]:Sl)[2]?=true:=rfl
 rw [qaa,qcx,if_pos hi,c1,vM]
 simp only [List.getElem?_cons_succ,List.getElem?_cons_zero]
 simp [qfp,hs]
theorem Zx (hn:n<=6) (g:Wk):(OL1 n g).length<=6:=by simp [OL1]; omega
theorem Zy (hn:n<=6) (a:Option D):∀ (cs acc:List Wk) (x3 x4:Option D),(∀ g∈cs,g.length<=50/\∀ k∈g,k < n)->acc.length+6 * cs.length<=1000000 ->
  ∃ y3 y4,wz (gNm 3) olB (gR cs) [a,some (.int (n:Nat)),some (.lst (gR acc)),x3,x4]=.ok (.nx,[a,some (.int (n:Nat)),some (.lst (gR (acc++OL n cs))),y3,y4])
 | [],acc,x3,x4,_,_=>⟨x3,x4,by simp [gR,OL,wz]⟩
 | g::cs,acc,x3,x4,h,hl=>by
  rw [ap] at hl
  obtain ⟨h1,h2⟩:=h g (ah ..)
  obtain ⟨z4,e⟩:=qda hn g h1 h2 acc (by omega) a x4
  have hol:=Zx hn g
  obtain ⟨y3,y4,ih⟩:=Zy hn a cs (acc++OL1 n g) (some (gD g)) z4 (fun m hm=>h m (aa _ hm)) (by rw [ai]; omega)
  refine ⟨y3,y4,cZ (uF (d:=gD g) (ρ1:=[a,some (.int (n:Nat)),some (.lst (gR acc)),some (gD g),x4]) rfl e) (cZ ih ?_)⟩
  rw [show OL n (g::cs)=OL1 n g++OL n cs from dL,aV]
variable {cs:List Wk}
theorem Ja (hn:n<=6) (h:∀ g∈cs,g.length<=50/\∀ k∈g,k < n) (hl:cs.length<=100000):ku [.lst (gR cs),.int (n:Nat)]=.ok (.lst (gR (OL n cs)),[.non,.non]):=by
 obtain ⟨y3,y4,e⟩:=Zy hn (some (.lst (gR cs))) cs [] none none h (by simp; omega)
 refine runD_ap.trans ?_
 unfold wX
 rw [show qw vB [.lst (gR cs),.int (n:Nat)]=[some (.lst (gR cs)),some (.int (n:Nat)),none,none,none] from rfl]
 refine (qB (ρ1:=[some (.lst (gR cs)),some (.int (n:Nat)),some (.lst []),none,none]) (by simp)).trans ?_
 refine (qB (ρ1:=[some (.lst (gR cs)),some (.int (n:Nat)),some (.lst (gR (OL n cs))),y3,y4]) (by
  rw [vG,show km (qe 0) [some (.lst (gR cs)),some (.int (n:Nat)),some (.lst []),none,none]=.ok (gR cs,[some (.lst (gR cs)),some (.int (n:Nat)),some (.lst []),none,none]) from rfl,vM]
  exact e)).trans ?_
 simp [qv]
noncomputable def FW (n:Nat) (P:Wk->Bool):Nat->List Wk->List Wk
 | 0,cs=>cs.filter P
 | m+1,cs=>if cs.filter P=[] then FW n P m (OL n cs) else cs.filter P
theorem Uf (h:g∈OL n cs):∃ g0∈cs,∃ k,k < n/\g=g0++[k]:=by
 obtain ⟨g0,h0,h1⟩:=bS.mp h
 obtain ⟨k,hk,rfl⟩:=aj.mp h1
 have:=dM.mp hk
 exact ⟨g0,h0,k,by omega,rfl⟩
variable {i:Nat}
theorem qdb (hi:i < n) (h:aF i∈cs):aF (i+1)∈OL n cs:=by
 refine bS.mpr ⟨_,h,aj.mpr ⟨i,?_,by rw [List.range_succ]⟩⟩
 have:stt (aF i)=i:=by
  unfold stt
  cases i with
  | zero=>rfl
  | succ j=>rw [List.range_succ,List.getLast?_append]; simp
 rw [this]
 exact dM.mpr ⟨ax _,by omega⟩
theorem Zz (hn:n<=6):∀ cs:List Wk,(OL n cs).length<=6 * cs.length
 | []=>by simp [OL]
 | g::cs=>by
  have ih:=Zz hn cs
  have:=Zx hn g
  rw [show OL n (g::cs)=OL1 n g++OL n cs from dL,ai,ap]
  omega
abbrev fwC:Sl->Out (Bool×Sl):=je (d2 eqD (d1 jF (qe 4)) (dC (.int 0)))
abbrev fwT (G:List D->Out (D×List D)):Sl->Out (Bool×Sl):=zl (qt [.vl,.vl,.vl,.vl] G (qd (qe 1) (qd (qe 2) (qd (qe 3) (qd (qe 0) qH)))))
abbrev fwB (G O:List D->Out (D×List D)):Sl->Out (Fl×Sl):=(ji (kb 4 (ju [] 1 [0,1,2] (km (qe 3)) (gNm 0) (fwT G) (qe 0)))
  (kb 3 (qt [.vl,.vl] O (qd (qe 3) (qd (d1 jF (qe 0)) qH)))))
variable {P:Wk->Bool}
theorem ZA {c:D} (hG:∀ g:Wk,g.length<=50->G [a,b,c,gD g]=.ok (.bl (P g),[.non,.non,.non,.non])):∀ (cs:List Wk) (x:Option D),(∀ g∈cs,g.length<=50) ->
  ∃ x',jt (gNm 0) (fwT G) (qe 0) (gR cs) [x,some a,some b,some c]=.ok (gR (cs.filter P),[x',some a,some b,some c])
 | [],x,_=>⟨x,rfl⟩
 | g::cs,x,h=>by
  have h1:=hG g (h g (ah ..))
  obtain ⟨x',ih⟩:=ZA hG cs (some (gD g)) fun m hm=>h m (aa _ hm)
  refine ⟨x',?_⟩
  have e0:gR (g::cs)=gD g::gR cs:=rfl
  rw [e0]
  cases q:P g with
  | true=>
   rw [List.filter_cons_of_pos q]
   rw [q] at h1
   simp [jt,yS,qy,jl,h1,ye,ih]
   rfl
  | false=>
   rw [List.filter_cons_of_neg (by rw [q]; exact bf)]
   rw [q] at h1
   simp [jt,yS,qy,jl,h1,ye,ih]
theorem qdc:okB r seen ns (aF seen.length)=true:=by
 have hk:kept seen.length (aF seen.length)=[]:=by
  unfold kept
  rw [List.filter_eq_nil_iff]
  intro k hk
  simp at hk ⊢
  exact hk
 unfold okB
 rw [hk]
 show decide (0 < (slv r (sub seen []) (sub ns [])).length)=true
 have:slv r (sub seen []) (sub ns [])=[[]]:=by
  show (EV0 r (LS [])).filter _=_
  have hl:LS []=[]:=by decide +kernel
  rw [hl]
  rfl
 rw [this]
 rfl
theorem qaJ {O:List D->Out (D×List D)} (h6:seen.length<=6) {c:D} (hG:∀ g:Wk,g.length<=50->G [sD seen,b,c,gD g]=.ok (.bl (P g),[.non,.non,.non,.non]))
  (hO:∀ cs:List Wk,(∀ g∈cs,g.length<=50/\∀ k∈g,k < seen.length)->cs.length<=100000->O [.lst (gR cs),.int (seen.length:Nat)]=.ok (.lst (gR (OL seen.length cs)),[.non,.non])) (hP:P (aF seen.length)=true):∀ (m i:Nat) (cs:List Wk),m+i=seen.length->aF i∈cs->(∀ g∈cs,g.length<=i/\∀ k∈g,k < seen.length)->cs.length<=6 ^ i ->
  ∃ y3 f0 fs,FW seen.length P m cs=f0::fs/\∀ fuel:Nat,m+2<=fuel->jf fwC (fwB G O) fuel [some (sD seen),some b,some c,some (.lst (gR cs)),some (.lst [])]=.ok (.nx,[some (sD seen),some b,some c,y3,some (.lst (gR (f0::fs)))]):=by
 intro m
 have hlen:jF (sD seen)=.ok (.int (seen.length:Nat)):=by simp [jF,jY]
 have step:∀ (i:Nat) (cs:List Wk),i<=6->(∀ g∈cs,g.length<=i/\∀ k∈g,k < seen.length)->cs.length<=6 ^ i->∀ fu,jf fwC (fwB G O) (fu+1) [some (sD seen),some b,some c,some (.lst (gR cs)),some (.lst [])]=jf fwC (fwB G O) fu [some (sD seen),some b,some c,some (.lst (gR (OL seen.length cs))),some (.lst (gR (cs.filter P)))]:=fun i cs hi hb hl fu=>by
  obtain ⟨x',c1⟩:=ZA hG cs none (fun g hg=>by have:=(hb g hg).1; omega)
  have hpow:6 ^ i<=46656:=bc (dZ (by omega) hi) (by decide)
  have h1:=hO cs (fun g hg=>⟨by have:=(hb g hg).1; omega,(hb g hg).2⟩) (by omega)
  have d1:=yK (own:=[]) (cap:=[0,1,2]) (nt:=1) (fi:=km (qe 3)) (g:=gNm 0) (ft:=fwT G) (fe:=qe 0) (ρ:=[some (sD seen),some b,some c,some (.lst (gR cs)),some (.lst [])]) (ρ1:=[some (sD seen),some b,some c,some (.lst (gR cs)),some (.lst [])]) (ds:=gR cs) rfl (by unfold gR; rw [au]; exact bc (by omega) (show 1100000<=sizeLine by rw [sizeLine_eq]; decide)) c1
  refine WY (ρ1:=[some (sD seen),some b,some c,some (.lst (gR cs)),some (.lst [])]) (by simp [jF,eqD,eqN,eqS]) ?_
  unfold fwB
  rw [qbm (ρ1:=[some (sD seen),some b,some c,some (.lst (gR cs)),some (.lst (gR (cs.filter P)))]) (by rw [yW,d1]; rfl)]
  simp [qy,jl,hlen,h1]
 have stop:∀ (y3:Option D) (f0:Wk) (fs:List Wk) (fu:Nat),jf fwC (fwB G O) (fu+1) [some (sD seen),some b,some c,y3,some (.lst (gR (f0::fs)))]=.ok (.nx,[some (sD seen),some b,some c,y3,some (.lst (gR (f0::fs)))]):=fun y3 f0 fs fu=>by
  refine Kn ?_
  have hne:¬((fs.length:Int)+1=0):=by omega
  simp [jF,gR,eqD,eqN,eqS,hne]
 induction m with
 | zero=>
  intro i cs hi hf hb hl
  have hi:i=seen.length:=by omega
  have hne:cs.filter P≠[]:=List.ne_nil_of_mem (aD.mpr ⟨by rw [hi] at hf; exact hf,hP⟩)
  cases hF:cs.filter P with
  | nil=>exact absurd hF hne
  | cons f0 fs=>
   refine ⟨some (.lst (gR (OL seen.length cs))),f0,fs,hF,fun fuel hfu=>?_⟩
   obtain ⟨fu,rfl⟩:∃ fu,fuel=fu+1+1:=⟨fuel - 2,by omega⟩
   rw [step i cs (by omega) hb hl,hF]
   exact stop _ _ _ _
 | succ m ih=>
  intro i cs hi hf hb hl
  cases hF:cs.filter P with
  | nil=>
   obtain ⟨y3,f0,fs,e1,e2⟩:=ih (i+1) (OL seen.length cs) (by omega) (qdb (by omega) hf) (fun g hg=>by
    obtain ⟨g0,h0,k,hk,rfl⟩:=Uf hg
    obtain ⟨b1,b2⟩:=hb g0 h0
    refine ⟨by rw [ai]; simp; omega,fun j hj=>?_⟩
    rcases ak.mp hj with hj | hj
    ·exact b2 j hj
    ·rw [am.mp hj]; exact hk) (by
    have:=Zz h6 cs
    rw [Nat.pow_succ]
    omega)
   refine ⟨y3,f0,fs,?_,fun fuel hfu=>?_⟩
   ·unfold FW
    rw [if_pos hF]
    exact e1
   ·obtain ⟨fu,rfl⟩:∃ fu,fuel=fu+1:=⟨fuel - 1,by omega⟩
    rw [step i cs (by omega) hb hl,hF]
    exact e2 fu (by omega)
  | cons f0 fs=>
   refine ⟨some (.lst (gR (OL seen.length cs))),f0,fs,?_,fun fuel hfu=>?_⟩
   ·unfold FW
    rw [if_neg (by rw [hF]; simp)]
    exact hF
   ·obtain ⟨fu,rfl⟩:∃ fu,fuel=fu+1+1:=⟨fuel - 2,by omega⟩
    rw [step i cs (by omega) hb hl,hF]
    exact stop _ _ _ _
theorem qdd (S:Sn seen W) (h0:1<=r) (hn:qE seen.length r ns) :
  ∃ y3 f0 fs,FW seen.length (okB r seen ns) seen.length [[]]=f0::fs/\∀ fuel:Nat,seen.length+2<=fuel->jf fwC (fwB qZ ku) fuel [some (sD seen),some (.int r),some (nD ns),some (.lst (gR [[]])),some (.lst [])]=.ok (.nx,[some (sD seen),some (.int r),some (nD ns),y3,some (.lst (gR (f0::fs)))]):=
 qaJ S.n (fun g hg=>qe5 S h0 hn g (by omega)) (fun cs h1 h2=>Ja S.n h1 h2) qdc seen.length 0 [[]] rfl (by simp) (by simp) (by simp)
theorem Kr (S:Sn seen W) (h0:1<=r) (hn:qE seen.length r ns) :
  ∃ f0 fs,FW seen.length (okB r seen ns) seen.length [[]]=f0::fs/\zb [sD seen,.int r,nD ns]=.ok (.lst (gR (f0::fs)),[.non,.non,.non]):=by
 obtain ⟨y3,f0,fs,a1,a2⟩:=qdd S h0 hn
 have hsn:=S.n
 have a3:=a2 20 (by omega)
 refine ⟨f0,fs,a1,?_⟩
 have z1:1<=sizeLine:=jz (by omega)
 refine runD_ap.trans ?_
 unfold QD
 generalize hG:qZ=G at a3
 generalize hO:ku=O at a3
 rw [show qw za [sD seen,.int r,nD ns]=[some (sD seen),some (.int r),some (nD ns),none,none] from rfl]
 refine (qB (ρ1:=[some (sD seen),some (.int r),some (nD ns),some (.lst (gR [[]])),none]) (by simp [z1,gR,inL])).trans ?_
 refine (qB (ρ1:=[some (sD seen),some (.int r),some (nD ns),some (.lst (gR [[]])),some (.lst [])]) (by simp)).trans ?_
 generalize (20:Nat)=fu at a3
 refine (qB a3).trans ?_
 simp [qv]
variable {sd:D}
theorem qaK {T:List D->Out (D×List D)} {c x:D} {ls:List D} (hT:T [a,b,c,d]=.ok (sd,[.non,.non,.non,.non])) (hG:G [sd,c,d]=.ok (.lst (x::ls),[.non,.non,.non])) :
  UM [.val,.val,.val,.val] ((ji (kb 4 (qt [.vl,.vl,.vl,.vl] T (qd (qe 0) (qd (qe 1) (qd (qe 2) (qd (qe 3) qH)))))) (jZ (d2 ixD (qt [.vl,.vl,.vl] G (qd (qe 4) (qd (qe 2) (qd (qe 3) qH)))) (dC (.int 0))))) [some a,some b,some c,some d,none])=.ok (x,[.non,.non,.non,.non]):=by
 have hix:ixD (.lst (x::ls)) (.int 0)=.ok x:=by simp [ixD,at0]
 simp [qv,qy,jl,hT,hG,hix]
theorem uV (hw:jE ws) {p:Int} (hl:Yk p q) (h0:1<=r) (h9:r<=99) (hn:qE ws.length r ns) (S:Sn (qA ws p q) W) :
  ∃ f0 fs,FW ws.length (okB r (qA ws p q) ns) ws.length [[]]=f0::fs/\kg [Wd ws,Ld p q,.int r,nD ns]=.ok (gD f0,[.non,.non,.non,.non]):=by
 have hsl:(qA ws p q).length=ws.length:=by simp [qA]
 have e1:=VL hw hl h0 h9 hn
 obtain ⟨f0,fs,a1,hf⟩:=Kr S h0 (ns:=ns) (by rw [hsl]; exact hn)
 rw [hsl] at a1
 exact ⟨f0,fs,a1,runD_ap.trans (qaK e1 hf)⟩
theorem xq (hr:1<=r) (hn:qE seen.length r ns) (l:Ln):l∈slv r seen ns↔(kh l=LS seen/\∀ e∈l,0<=e.2/\e.2 < r)/\Sol seen r ns (jo l):=by
 unfold slv
 rw [aD,VN hr,decide_eq_true_eq,QY hn]
theorem ZB:(slv r seen ns).Nodup:=(qc8 _ _ (by simp)).filter _
theorem qde (hr:1<=r) (hn:qE seen.length r ns):0 < (slv r seen ns).length↔∃ v,Sol seen r ns v:=by
 constructor
 ·intro h
  obtain ⟨l,hl⟩:=List.exists_mem_of_length_pos h
  exact ⟨_,((xq hr hn l).mp hl).2⟩
 ·rintro ⟨v,hv⟩
  refine cm (a:=(LS seen).map fun x=>(x,v x % r)) ((xq hr hn _).mpr ⟨⟨wt _ _,fun e he=>?_⟩,fun k p hk=>?_⟩)
  ·obtain ⟨x,_,rfl⟩:=aj.mp he
   exact ⟨bX _ (by omega),bG _ (by omega)⟩
  ·have hp:=aU hk
   have m1:p.1∈LS seen:=mem_LS.mpr ⟨p,hp,.inl rfl⟩
   have m2:p.2∈LS seen:=mem_LS.mpr ⟨p,hp,.inr rfl⟩
   rw [ki (fun x=>v x % r) m1,ki (fun x=>v x % r) m2]
   have d0:=hv k p hk
   have d1:r ∣ v p.1 % r - v p.1:=Int.dvd_emod_sub_self
   have d2:r ∣ v p.2 % r - v p.2:=Int.dvd_emod_sub_self
   have e:v p.1 % r+v p.2 % r - nI ns k=(v p.1+v p.2 - nI ns k)+(v p.1 % r - v p.1)+(v p.2 % r - v p.2):=by omega
   rw [e]
   exact dE (dE d0 d1) d2
def cnd (seen:List Pr) (r:Int) (ns:List Int) (v:Str->Int) (k:Nat):Prop:=∀ p,seen[k]?=some p->r ∣ v p.1+v p.2 - nI ns k
theorem VQ {seen:List Pr} {r:Int} {ns:List Int} (hl:ns.length=seen.length) {v:Str->Int}:∀ ks:Wk,(∀ k∈ks,k < seen.length)->(Sol (sub seen ks) r (sub ns ks) v↔∀ k∈ks,cnd seen r ns v k)
 | [],_=>⟨fun _ k hk=>(nomatch hk),fun _ k p hk=>(by simp [sub] at hk)⟩
 | k::ks,h=>by
  have hk:=h k (ah ..)
  have ih:=VQ (v:=v) (r:=r) hl ks fun j hj=>h j (aa _ hj)
  have e1:seen[k]?=some seen[k]:=af hk
  have e2:ns[k]?=some (nI ns k):=by unfold nI; rw [af (by rw [hl]; exact hk)]; rfl
  rw [zg e1,zg e2]
  constructor
  ·intro hS j hj
   rcases ac.mp hj with rfl | hj
   ·intro p hp
    rw [e1] at hp
    cases hp
    exact hS 0 _ rfl
   ·exact (ih.mp fun i p hp=>hS (i+1) p hp) j hj
  ·intro hc i p hp
   cases i with
   | zero=>
    have hp:some seen[k]=some p:=hp
    cases hp
    exact hc k (ah ..) _ e1
   | succ i=>exact (ih.mpr fun j hj=>hc j (aa _ hj)) i p hp
theorem vI (hr:1<=r) (hn:qE seen.length r ns) (g:Wk):okB r seen ns g=true↔∃ v,∀ k,k < seen.length->k∉g->cnd seen r ns v k:=by
 unfold okB
 have hlt:=VP (n:=seen.length) (g:=g)
 have hmem:∀ k,k∈kept seen.length g↔k < seen.length/\k∉g:=fun k=>by
  unfold kept
  rw [aD,aL]
  simp
 generalize kept seen.length g=ks at hlt hmem
 have hn':qE (sub seen ks).length r (sub ns ks):=⟨by rw [kj seen ks hlt,kj ns ks (fun k hk=>by rw [hn.1]; exact hlt k hk)],fun i hi=>hn.2 i (QZ hi)⟩
 rw [decide_eq_true_eq,qde hr hn']
 constructor
 ·rintro ⟨v,hv⟩
  exact ⟨v,fun k h1 h2=>(VQ hn.1 ks hlt).mp hv k ((hmem k).mpr ⟨h1,h2⟩)⟩
 ·rintro ⟨v,hv⟩
  exact ⟨v,(VQ hn.1 ks hlt).mpr fun k hk=>hv k ((hmem k).mp hk).1 ((hmem k).mp hk).2⟩
def Inc (n:Nat) (g:Wk):Prop:=g.Pairwise (· < ·)/\∀ k∈g,k < n
theorem ZC (h:∀ g,Inc n g->g.length=i->g∈cs):∀ g,Inc n g->g.length=i+1->g∈OL n cs:=by
 intro g hg hl
 have hne:g≠[]:=fun z=>by rw [z] at hl; cases hl
 have hd:=List.dropLast_concat_getLast hne
 generalize hk:g.getLast hne=k at hd
 generalize hg0:g.dropLast=g0 at hd
 subst hd
 have hp:=cC.mp hg.1
 have h0:Inc n g0:=⟨hp.1,fun j hj=>hg.2 j (ak.mpr (.inl hj))⟩
 have hkn:k < n:=hg.2 k (ak.mpr (.inr (am.mpr rfl)))
 refine bS.mpr ⟨g0,h g0 h0 (by rw [ai] at hl; simpa using hl),aj.mpr ⟨k,dM.mpr ?_,rfl⟩⟩
 have:stt g0<=k:=by
  unfold stt
  cases q:g0.getLast? with
  | none=>simp
  | some j=>
   have:=hp.2.2 j (List.mem_of_getLast? q) k (am.mpr rfl)
   simp
   omega
 omega
theorem VR (h:Inc n g):g.length<=n:=by
 have hnd:g.Nodup:=h.1.imp fun hab=>aE hab
 have:=zf hnd (b:=aF n) fun x hx=>aL.mpr (h.2 x hx)
 rwa [bD] at this
theorem qbu:∀ (m i:Nat) (cs:List Wk) (f0:Wk) (fs:List Wk),m+i=n->(∀ g∈cs,g.length=i)->(∀ g,Inc n g->g.length=i->g∈cs)->FW n P m cs=f0::fs ->
  P f0=true/\f0.length<=n/\∀ g,Inc n g->P g=true->i<=g.length->f0.length<=g.length
 | 0,i,cs,f0,fs,hi,hs,hc,hF=>by
  have h1:f0∈cs.filter P:=by
   have hF:cs.filter P=f0::fs:=hF
   rw [hF]; exact ah ..
  obtain ⟨a,b⟩:=aD.mp h1
  have:=hs f0 a
  exact ⟨b,by omega,fun g hg hp hl=>by omega⟩
 | m+1,i,cs,f0,fs,hi,hs,hc,hF=>by
  unfold FW at hF
  by_cases q:cs.filter P=[]
  ·rw [if_pos q] at hF
   obtain ⟨a,b,c⟩:=qbu m (i+1) (OL n cs) f0 fs (by omega) (fun g hg=>by
    obtain ⟨g0,h0,k,_,rfl⟩:=Uf hg
    rw [ai,hs g0 h0]
    rfl) (ZC hc) hF
   refine ⟨a,b,fun g hg hp hl=>c g hg hp ?_⟩
   by_cases e:g.length=i
   ·have:=aD.mpr ⟨hc g hg e,hp⟩
    rw [q] at this
    cases this
   ·omega
  ·rw [if_neg q] at hF
   have h1:f0∈cs.filter P:=by rw [hF]; exact ah ..
   obtain ⟨a,b⟩:=aD.mp h1
   have:=hs f0 a
   exact ⟨b,by omega,fun g hg hp hl=>by omega⟩
variable {f0:Wk}
theorem Ks {fs:List Wk} (h:FW n P n [[]]=f0::fs):P f0=true/\f0.length<=n/\∀ g,Inc n g->P g=true->f0.length<=g.length:=by
 obtain ⟨a,b,c⟩:=qbu n 0 [[]] f0 fs (by omega) (fun g hg=>by rw [am.mp hg]; rfl) (fun g _ hl=>by rw [b9 hl]; exact am.mpr rfl) h
 exact ⟨a,b,fun g hg hp=>c g hg hp (bB _)⟩
theorem ZD:(1100000:Nat)<=sizeLine:=by rw [sizeLine_eq]; decide
noncomputable def ltW:Wk->Wk->Bool
 | x::xs,y::ys=>if x=y then ltW xs ys else decide (x < y)
 | [],_::_=>true
 | _,[]=>false
theorem Ug:∀ a b:Wk,ltW a b=true->ltW b a=false
 | [],[],h=>by simp [ltW] at h
 | [],_::_,_=>rfl
 | _::_,[],h=>by simp [ltW] at h
 | x::a,y::b,h=>by
  unfold ltW at h ⊢
  by_cases q:x=y
  ·rw [if_pos q] at h
   rw [if_pos q.symm]
   exact Ug a b h
  ·rw [if_neg q] at h
   rw [if_neg fun z=>q z.symm]
   have:=of_decide_eq_true h
   exact decide_eq_false (by omega)
theorem ZE:∀ (a b:Wk) (j k:Nat),a.length=b.length->ltW a b=true->ltW (a++[j]) (b++[k])=true
 | [],[],_,_,_,h=>by simp [ltW] at h
 | [],_::_,_,_,h,_=>by cases h
 | _::_,[],_,_,h,_=>by cases h
 | x::a,y::b,j,k,hl,h=>by
  unfold ltW at h
  show (if x=y then ltW (a++[j]) (b++[k]) else decide (x < y))=true
  by_cases q:x=y
  ·rw [if_pos q] at h ⊢
   exact ZE a b j k (by simpa using hl) h
  ·rw [if_neg q] at h ⊢
   exact h
theorem Uh:∀ (a:Wk) (j k:Nat),j < k->ltW (a++[j]) (a++[k])=true
 | [],j,k,h=>by
  show (if j=k then _ else decide (j < k))=true
  rw [if_neg (by omega)]
  exact decide_eq_true h
 | x::a,j,k,h=>by
  show (if x=x then ltW (a++[j]) (a++[k]) else _)=true
  rw [if_pos rfl]
  exact Uh a j k h
theorem Kt {n i:Nat}:∀ cs:List Wk,(∀ g∈cs,g.length=i)->cs.Pairwise (fun a b=>ltW a b=true)->(OL n cs).Pairwise fun a b=>ltW a b=true
 | [],_,_=>.nil
 | g::cs,hl,hs=>by
  have h2:=aQ.mp hs
  have ih:=Kt (n:=n) cs (fun x hx=>hl x (aa _ hx)) h2.2
  show (OL1 n g++OL n cs).Pairwise _
  refine cC.mpr ⟨?_,ih,fun a ha b hb=>?_⟩
  ·unfold OL1
   refine cV.mpr (eM (fun {j k} h=>Uh g j k h) ?_)
   exact List.pairwise_lt_range' ..
  ·obtain ⟨j,_,rfl⟩:=aj.mp ha
   obtain ⟨h,hh,hb⟩:=bS.mp hb
   obtain ⟨k,_,rfl⟩:=aj.mp hb
   exact ZE g h j k (by rw [hl g (ah ..),hl h (aa _ hh)]) (h2.1 h hh)
theorem qbv (h:∀ g∈cs,Inc n g):∀ g∈OL n cs,Inc n g:=fun g hg=>by
 obtain ⟨g0,h0,hg⟩:=bS.mp hg
 obtain ⟨k,hk,rfl⟩:=aj.mp hg
 have hk:=dM.mp hk
 have hi:=h g0 h0
 refine ⟨cC.mpr ⟨hi.1,by simp,fun a ha b hb=>?_⟩,fun x hx=>?_⟩
 ·rw [am.mp hb]
  have hne:g0≠[]:=fun z=>by rw [z] at ha; cases ha
  have hd:=List.dropLast_concat_getLast hne
  generalize g0.getLast hne=c at hd
  generalize g0.dropLast=g1 at hd
  subst hd
  have hst:stt (g1++[c])=c+1:=by simp [stt]
  rw [hst] at hk
  rcases ak.mp ha with ha | ha
  ·have:=(cC.mp hi.1).2.2 a ha c (am.mpr rfl)
   omega
  ·rw [am.mp ha]
   omega
 ·rcases ak.mp hx with hx | hx
  ·exact hi.2 x hx
  ·rw [am.mp hx]
   omega
theorem qbw {fs:List Wk}:∀ (m i:Nat) (cs:List Wk),(∀ g∈cs,g.length=i)->(∀ g,Inc n g->g.length=i->g∈cs)->(∀ g∈cs,Inc n g)->cs.Pairwise (fun a b=>ltW a b=true)->FW n P m cs=f0::fs ->
  ∃ cs':List Wk,(∀ g,Inc n g->g.length=f0.length->g∈cs')/\Inc n f0/\cs'.Pairwise (fun a b=>ltW a b=true)/\cs'.filter P=f0::fs
 | 0,i,cs,hl,ha,hi,hs,hF=>by
  have hm:f0∈cs.filter P:=by rw [show cs.filter P=f0::fs from hF]; exact ah ..
  have h0:=(aD.mp hm).1
  exact ⟨cs,fun g hg hgl=>ha g hg (by rw [hgl,hl f0 h0]),hi f0 h0,hs,hF⟩
 | m+1,i,cs,hl,ha,hi,hs,hF=>by
  unfold FW at hF
  by_cases q:cs.filter P=[]
  ·rw [if_pos q] at hF
   refine qbw m (i+1) (OL n cs) (fun g hg=>?_) (ZC ha) (qbv hi) (Kt cs hl hs) hF
   obtain ⟨g0,h0,k,_,rfl⟩:=Uf hg
   rw [ai,hl g0 h0]
   rfl
  ·rw [if_neg q] at hF
   have hm:f0∈cs.filter P:=by rw [hF]; exact ah ..
   have h0:=(aD.mp hm).1
   exact ⟨cs,fun g hg hgl=>ha g hg (by rw [hgl,hl f0 h0]),hi f0 h0,hs,hF⟩
noncomputable def LT (g h:Wk):Bool:=if g.length=h.length then (if g=h then false else ltW g h) else decide (g.length < h.length)
theorem yM {fs:List Wk} (h:FW n P n [[]]=f0::fs):Inc n f0/\∀ g,Inc n g->P g=true->g≠f0->LT f0 g=true/\LT g f0=false:=by
 obtain ⟨a,b,c⟩:=Ks h
 obtain ⟨cs,i1,i2,i3,i4⟩:=qbw n 0 [[]] (fun g hg=>by rw [am.mp hg]; rfl) (fun g _ hl=>by rw [b9 hl]; exact am.mpr rfl) (fun g hg=>by rw [am.mp hg]; exact ⟨.nil,fun k hk=>by cases hk⟩) (by simp) h
 refine ⟨i2,fun g hg hp hne=>?_⟩
 have hle:=c g hg hp
 unfold LT
 by_cases q:f0.length=g.length
 ·rw [if_pos q,if_pos q.symm,if_neg hne,if_neg fun z=>hne z.symm]
  have hm:g∈f0::fs:=by rw [<-i4]; exact aD.mpr ⟨i1 g hg q.symm,hp⟩
  have hpw:(f0::fs).Pairwise fun a b=>ltW a b=true:=by rw [<-i4]; exact i3.filter _
  rcases ac.mp hm with hm | hm
  ·exact absurd hm hne
  ·have:=(aQ.mp hpw).1 g hm
   exact ⟨this,Ug _ _ this⟩
 ·rw [if_neg q,if_neg fun z=>q z.symm]
  exact ⟨decide_eq_true (by omega),decide_eq_false (by omega)⟩
theorem ZF:∀ a b:Wk,a.Pairwise (· < ·)->b.Pairwise (· < ·)->(∀ x∈a,x∈b)->b.length<=a.length->a=b
 | [],b,_,_,_,hl=>(b9 (by simpa using hl)).symm
 | x::a,[],_,_,h,_=>by have:=h x (ah ..); cases this
 | x::a,y::b,ha,hb,h,hl=>by
  have ha2:=aQ.mp ha
  have hb2:=aQ.mp hb
  by_cases q:x=y
  ·subst q
   rw [ZF a b ha2.2 hb2.2 (fun z hz=>by
    rcases ac.mp (h z (aa _ hz)) with e | e
    ·have:=ha2.1 z hz
     omega
    ·exact e) (by simpa using hl)]
  ·have hx:x∈b:=by
    rcases ac.mp (h x (ah ..)) with e | e
    ·exact absurd e q
    ·exact e
   have hyx:=hb2.1 x hx
   have hnd:(x::a).Nodup:=ha.imp fun hab=>aE hab
   have:=zf hnd (b:=b) fun z hz=>by
    rcases ac.mp (h z hz) with e | e
    ·rcases ac.mp hz with e2 | e2
     ·omega
     ·have:=ha2.1 z e2
      omega
    ·exact e
   rw [ap] at hl this
   rw [ap] at hl
   omega
noncomputable def wr (n:Nat) (ms ns:List Int):Wk:=(aF n).filter fun k=>decide (nI ms k≠nI ns k)
theorem Ui (n:Nat) (ms ns:List Int):Inc n (wr n ms ns):=⟨(List.pairwise_lt_range ..).filter _,fun k hk=>aL.mp (aD.mp hk).1⟩
theorem ZG {l:Ln} {k:Nat} (h:seen[k]?=some p):nI (jA l seen r) k=(jo l p.1+jo l p.2) % r:=by
 unfold nI jA
 rw [aG,h]
 rfl
theorem qe6 (hn:qE n r ns) {k:Nat} (hk:k < n):0<=nI ns k/\nI ns k < r:=by
 have hk':k < ns.length:=by rw [hn.1]; exact hk
 have e:nI ns k=ns[k]:=by unfold nI; rw [af hk']; rfl
 rw [e]
 exact hn.2 _ (bq hk')
theorem qdf (hr:1<=r) (hn:qE seen.length r ns) (l:Ln):okB r seen ns (wr seen.length (jA l seen r) ns)=true:=by
 refine (vI hr hn _).mpr ⟨jo l,fun k hk hg p hp=>?_⟩
 have e:nI (jA l seen r) k=nI ns k:=aY fun z=>hg (aD.mpr ⟨aL.mpr hk,decide_eq_true z⟩)
 rw [ZG hp] at e
 rw [<-e]
 exact b7
theorem qgD (hr:1<=r) (hn:qE seen.length r ns) (hg:okB r seen ns g=true):∃ l∈EV0 r (LS seen),∀ k∈wr seen.length (jA l seen r) ns,k∈g:=by
 obtain ⟨v,hv⟩:=(vI hr hn g).mp hg
 refine ⟨(LS seen).map fun x=>(x,v x % r),(VN hr).mpr ⟨wt _ _,fun e he=>?_⟩,fun k hk=>?_⟩
 ·obtain ⟨x,_,rfl⟩:=aj.mp he
  exact ⟨bX _ (by omega),bG _ (by omega)⟩
 ·obtain ⟨h1,h2⟩:=aD.mp hk
  have h1:=aL.mp h1
  refine aY fun hng=>of_decide_eq_true h2 ?_
  have hp:=af h1
  have d:=hv k h1 hng _ hp
  have m1:seen[k].1∈LS seen:=mem_LS.mpr ⟨_,bq h1,.inl rfl⟩
  have m2:seen[k].2∈LS seen:=mem_LS.mpr ⟨_,bq h1,.inr rfl⟩
  rw [ZG hp,ki (fun x=>v x % r) m1,ki (fun x=>v x % r) m2,<-Int.add_emod]
  obtain ⟨b0,b1⟩:=qe6 hn h1
  rw [<-bE b0 b1]
  exact Int.emod_eq_emod_iff_emod_sub_eq_zero.mpr (cO d)
theorem Uj:∀ a b:List Int,ltZ a b=true->ltZ b a=false
 | [],[],h=>by simp [ltZ] at h
 | [],_::_,_=>rfl
 | _::_,[],h=>by simp [ltZ] at h
 | x::a,y::b,h=>by
  unfold ltZ at h ⊢
  by_cases q:x=y
  ·rw [if_pos q] at h
   rw [if_pos q.symm]
   exact Uj a b h
  ·rw [if_neg q] at h
   rw [if_neg fun z=>q z.symm]
   have:=of_decide_eq_true h
   exact decide_eq_false (by omega)
theorem Ku:∀ a b:List Int,ltZ a b=false->a=b\/ltZ b a=true
 | [],[],_=>.inl rfl
 | [],_::_,h=>by simp [ltZ] at h
 | _::_,[],_=>.inr rfl
 | x::a,y::b,h=>by
  unfold ltZ at h
  by_cases q:x=y
  ·rw [if_pos q] at h
   rcases Ku a b h with e | e
   ·exact .inl (by rw [q,e])
   ·refine .inr ?_
    unfold ltZ
    rw [if_pos q.symm]
    exact e
  ·rw [if_neg q] at h
   refine .inr ?_
   unfold ltZ
   rw [if_neg fun z=>q z.symm]
   have:=of_decide_eq_false h
   exact decide_eq_true (by omega)
theorem yN:∀ a b c:List Int,ltZ a b=true->ltZ b c=true->ltZ a c=true
 | [],[],_,h,_=>by simp [ltZ] at h
 | _::_,[],_,h,_=>by simp [ltZ] at h
 | _,_::_,[],_,h=>by simp [ltZ] at h
 | [],_::_,_::_,_,_=>rfl
 | x::a,y::b,z::c,h,h'=>by
  unfold ltZ at h h' ⊢
  by_cases q:x=y
  ·rw [if_pos q] at h
   by_cases q2:y=z
   ·rw [if_pos q2] at h'
    rw [if_pos (q.trans q2)]
    exact yN a b c h h'
   ·rw [if_neg q2] at h'
    rw [q,if_neg q2]
    exact h'
  ·rw [if_neg q] at h
   have h1:=of_decide_eq_true h
   by_cases q2:y=z
   ·rw [if_neg (by omega)]
    exact decide_eq_true (by omega)
   ·rw [if_neg q2] at h'
    have h2:=of_decide_eq_true h'
    rw [if_neg (by omega)]
    exact decide_eq_true (by omega)
theorem qbx:∀ (k:Nat) (a b:List Int),k < a.length->k < b.length->(∀ i,i < k->nI a i=nI b i)->nI a k < nI b k->ltZ a b=true
 | _,[],_,h,_,_,_=>by simp at h
 | _,_,[],_,h,_,_=>by simp at h
 | 0,x::a,y::b,_,_,_,h=>by
  have h:x < y:=h
  unfold ltZ
  rw [if_neg (by omega)]
  exact decide_eq_true h
 | k+1,x::a,y::b,h1,h2,hi,h=>by
  have e:x=y:=hi 0 (by omega)
  unfold ltZ
  rw [if_pos e]
  exact qbx k a b (by simpa using h1) (by simpa using h2) (fun i hik=>hi (i+1) (by omega)) h
theorem VS:∀ (ts:List (List Int)) (t:List Int),Vi t ts∈t::ts/\∀ x∈t::ts,x=Vi t ts\/ltZ (Vi t ts) x=true
 | [],t=>⟨am.mpr rfl,fun x hx=>.inl (am.mp hx)⟩
 | u::ts,t=>by
  show Vi (if ltZ u t then u else t) ts∈_/\∀ x∈_,x=Vi (if ltZ u t then u else t) ts\/ltZ (Vi (if ltZ u t then u else t) ts) x=true
  by_cases q:ltZ u t=true
  ·rw [if_pos q]
   obtain ⟨a,b⟩:=VS ts u
   refine ⟨aa _ a,fun x hx=>?_⟩
   rcases ac.mp hx with rfl | hx
   ·rcases b u (ah ..) with e | e
    ·exact .inr (by rw [<-e]; exact q)
    ·exact .inr (yN _ _ _ e q)
   ·exact b x hx
  ·rw [if_neg q]
   obtain ⟨a,b⟩:=VS ts t
   refine ⟨?_,fun x hx=>?_⟩
   ·rcases ac.mp a with e | e
    ·rw [e]; exact ah ..
    ·exact aa _ (aa _ e)
   ·rcases ac.mp hx with rfl | hx
    ·exact b _ (ah ..)
    ·rcases ac.mp hx with rfl | hx
     ·rcases Ku x t (by simpa using q) with e | e
      ·rw [e]; exact b t (ah ..)
      ·rcases b t (ah ..) with e2 | e2
       ·exact .inr (by rw [<-e2]; exact e)
       ·exact .inr (yN _ _ _ e2 e)
     ·exact b x (aa _ hx)
noncomputable def lv (r:Int) (seen:List Pr) (fs:List Int) (k:Nat) (g:Wk):Nat:=((aF r.toNat).find? fun v=>okB r seen (fs.set k (v:Nat)) g).getD 0
noncomputable def lw (r:Int) (seen:List Pr):List Int->Wk->List Int
 | fs,[]=>fs
 | fs,k::g=>lw r seen (fs.set k (lv r seen fs k g:Nat)) g
theorem ge {fs:List Int} {k:Nat} (hk:k < fs.length) (x:Int) (i:Nat):nI (fs.set k x) i=if i=k then x else nI fs i:=by
 unfold nI
 rw [List.getElem?_set]
 by_cases q:i=k
 ·rw [if_pos q.symm,if_pos q,if_pos hk]
  rfl
 ·rw [if_neg fun z=>q z.symm,if_neg q]
theorem Kv {fs:List Int} (h:qE n r fs) {x:Int} (h0:0<=x) (h1:x < r) (k:Nat):qE n r (fs.set k x):=by
 refine ⟨by rw [cy]; exact h.1,fun i hi=>?_⟩
 rcases List.mem_or_eq_of_mem_set hi with h' | rfl
 ·exact h.2 i h'
 ·exact ⟨h0,h1⟩
variable {ms:List Int}
section
variable (hr:1<=r)
include hr
theorem qaL {fs:List Int} (hn:qE seen.length r fs) (hm:qE seen.length r ms) {g':Wk} (h:okB r seen fs g=true) (he:∀ k,k < seen.length->k∉g'->k∉g/\nI ms k=nI fs k):okB r seen ms g'=true:=by
 obtain ⟨v,hv⟩:=(vI hr hn g).mp h
 refine (vI hr hm g').mpr ⟨v,fun k hk hg p hp=>?_⟩
 obtain ⟨a,b⟩:=he k hk hg
 rw [b]
 exact hv k hk a p hp
theorem qe7 {fs:List Int} (hn:qE seen.length r fs) {k:Nat} (hk:k < seen.length) (h:okB r seen fs (k::g)=true) :
  (lv r seen fs k g:Int) < r/\okB r seen (fs.set k (lv r seen fs k g:Nat)) g=true/\∀ v:Nat,v < lv r seen fs k g->okB r seen (fs.set k (v:Nat)) g=false:=by
 obtain ⟨v,hv⟩:=(vI hr hn _).mp h
 have hp:=af hk
 have b0:0<=(v seen[k].1+v seen[k].2) % r:=bX _ (by omega)
 have b1:(v seen[k].1+v seen[k].2) % r < r:=bG _ (by omega)
 obtain ⟨x,hx⟩:=dB b0
 have hok:okB r seen (fs.set k (x:Nat)) g=true:=by
  refine (vI hr (Kv hn (by omega) (by omega) k) g).mpr ⟨v,fun i hi hg p hpi=>?_⟩
  rw [ge (by rw [hn.1]; exact hk)]
  by_cases q:i=k
  ·subst q
   rw [hp] at hpi
   cases hpi
   rw [if_pos rfl,<-hx]
   exact b7
  ·rw [if_neg q]
   exact hv i hi (fun z=>by rcases ac.mp z with e | e; exact q e; exact hg e) p hpi
 have hmem:x∈aF r.toNat:=aL.mpr (by omega)
 unfold lv
 cases q:(aF r.toNat).find? fun v=>okB r seen (fs.set k (v:Nat)) g with
 | none=>
  have:=cR.mp q x hmem
  exact absurd hok this
 | some y=>
  obtain ⟨hy,as,bs,hs,hall⟩:=List.find?_eq_some_iff_append.mp q
  have hyr:y < r.toNat:=aL.mp (by rw [hs]; exact aM _ (ah ..))
  refine ⟨by show (y:Int) < r; omega,hy,fun v hvy=>?_⟩
  have hvy:v < y:=hvy
  have hva:v∈as:=by
   have hlen:as.length=y:=by
    have h1:(aF r.toNat)[as.length]?=some y:=by rw [hs]; simp
    have hal:as.length < r.toNat:=by
     have:=congrArg fj hs
     rw [bD,ai,ap] at this
     omega
    rw [d9 hal] at h1
    exact aT.inj h1
   have h2:as[v]?=some v:=by
    have h3:(aF r.toNat)[v]?=some v:=d9 (by omega)
    rw [hs,bJ (by omega)] at h3
    exact h3
   exact aU h2
  have:=hall v hva
  simpa using this
theorem qe8:∀ (g:Wk) (fs:List Int),qE seen.length r fs->g.Pairwise (· < ·)->(∀ k∈g,k < seen.length)->okB r seen fs g=true ->
  qE seen.length r (lw r seen fs g)/\okB r seen (lw r seen fs g) []=true/\(∀ i,i∉g->nI (lw r seen fs g) i=nI fs i)/\∀ ms,qE seen.length r ms->okB r seen ms []=true->(∀ i,i < seen.length->i∉g->nI ms i=nI fs i)->ms=lw r seen fs g\/ltZ (lw r seen fs g) ms=true
 | [],fs,hn,_,_,h=>⟨hn,h,fun _ _=>rfl,fun ms hm _ he=>.inl (by
  refine List.ext_getElem (by rw [hm.1,show lw r seen fs []=fs from rfl,hn.1]) fun i h1 h2=>?_
  have h2':i < fs.length:=h2
  have:=he i (by rw [<-hm.1]; exact h1) (by simp)
  unfold nI at this
  rw [af h1,af h2'] at this
  exact this)⟩
 | k::g,fs,hn,hs,hb,h=>by
  have hs2:=aQ.mp hs
  have hk:=hb k (ah ..)
  have hkf:k < fs.length:=by rw [hn.1]; exact hk
  obtain ⟨l1,l2,l3⟩:=qe7 hr hn hk h
  generalize hv:lv r seen fs k g=x at l1 l2 l3
  have hn1:=Kv hn (x:=(x:Nat)) (by omega) l1 k
  obtain ⟨a,b,c,d⟩:=qe8 g (fs.set k (x:Nat)) hn1 hs2.2 (fun i hi=>hb i (aa _ hi)) l2
  have e:lw r seen fs (k::g)=lw r seen (fs.set k (x:Nat)) g:=by show lw r seen (fs.set k (lv r seen fs k g:Nat)) g=_; rw [hv]
  rw [e]
  have hkg:k∉g:=fun z=>bO _ (hs2.1 k z)
  refine ⟨a,b,fun i hi=>?_,fun ms hm ho he=>?_⟩
  ·have hik:i≠k:=fun z=>hi (by rw [z]; exact ah ..)
   rw [c i fun z=>hi (aa _ z),ge hkf,if_neg hik]
  ·have hmk:=qe6 hm hk
   obtain ⟨y,hy⟩:=dB hmk.1
   have hoy:okB r seen (fs.set k (y:Nat)) g=true:=qaL hr hm (Kv hn (by omega) (by omega) k) ho fun i hi hig=>by
    refine ⟨by simp,?_⟩
    rw [ge hkf]
    by_cases q:i=k
    ·rw [if_pos q,q,hy]
    ·rw [if_neg q]
     exact (he i hi (fun z=>by rcases ac.mp z with e | e; exact q e; exact hig e)).symm
   have hxy:x<=y:=aY fun z=>by
    have:=l3 y (by omega)
    rw [hoy] at this
    cases this
   by_cases q:x=y
   ·refine d ms hm ho fun i hi hig=>?_
    rw [ge hkf]
    by_cases q2:i=k
    ·rw [if_pos q2,q2,hy,q]
    ·rw [if_neg q2]
     exact he i hi fun z=>by rcases ac.mp z with e | e; exact q2 e; exact hig e
   ·refine .inr (qbx k _ _ (by rw [a.1]; exact hk) (by rw [hm.1]; exact hk) (fun i hik=>?_) ?_)
    ·have hig:i∉g:=fun z=>by have:=hs2.1 i z; omega
     rw [c i hig,ge hkf,if_neg (by omega),he i (by omega) fun z=>by rcases ac.mp z with e | e; omega; exact hig e]
    ·rw [c k hkg,ge hkf,if_pos rfl,hy]
     have:x < y:=by omega
     exact Int.ofNat_lt.mpr this
end
theorem qby {fs:List Wk}:∀ (m i:Nat) (cs:List Wk),(∀ g,g∈cs↔Inc n g/\g.length=i)->FW n P m cs=f0::fs->∀ g,g∈f0::fs↔Inc n g/\g.length=f0.length/\P g=true
 | 0,i,cs,hc,hF=>by
  have hF:cs.filter P=f0::fs:=hF
  have h0:f0∈cs.filter P:=by rw [hF]; exact ah ..
  have hl:=((hc f0).mp (aD.mp h0).1).2
  intro g
  rw [<-hF,aD,hc,hl,and_assoc]
 | m+1,i,cs,hc,hF=>by
  unfold FW at hF
  by_cases q:cs.filter P=[]
  ·rw [if_pos q] at hF
   refine qby m (i+1) (OL n cs) (fun g=>⟨fun hg=>⟨qbv (fun g hg=>((hc g).mp hg).1) g hg,?_⟩,fun hg=>ZC (fun g h1 h2=>(hc g).mpr ⟨h1,h2⟩) g hg.1 hg.2⟩) hF
   obtain ⟨g0,h0,k,_,rfl⟩:=Uf hg
   rw [ai,((hc g0).mp h0).2]
   rfl
  ·rw [if_neg q] at hF
   have h0:f0∈cs.filter P:=by rw [hF]; exact ah ..
   have hl:=((hc f0).mp (aD.mp h0).1).2
   intro g
   rw [<-hF,aD,hc,hl,and_assoc]
theorem ZH {fs:List Wk} (h:FW n P n [[]]=f0::fs):∀ g,g∈f0::fs↔Inc n g/\g.length=f0.length/\P g=true:=
 qby n 0 [[]] (fun g=>⟨fun hg=>by rw [am.mp hg]; exact ⟨⟨.nil,fun k hk=>by cases hk⟩,rfl⟩,fun hg=>by rw [b9 hg.2]; exact am.mpr rfl⟩) h
theorem vC (l:Ln) (seen:List Pr) (r:Int):(jA l seen r).length=seen.length:=by
 unfold jA
 rw [au]
theorem VT (l:Ln) (seen:List Pr) (hr:1<=r):qE seen.length r (jA l seen r):=⟨vC l seen r,fun i hi=>by
 obtain ⟨p,_,rfl⟩:=aj.mp hi
 exact ⟨bX _ (by omega),bG _ (by omega)⟩⟩
theorem Yi (l:Ln) (seen:List Pr) (hr:1<=r):okB r seen (jA l seen r) []=true:=(vI hr (VT l seen hr) []).mpr ⟨jo l,fun k _ _ p hp=>(QY (VT l seen hr) l).mp rfl k p hp⟩
theorem qe9 {a b:List Int} (hl:a.length=b.length) (h:∀ i,i < a.length->nI a i=nI b i):a=b:=by
 refine List.ext_getElem hl fun i h1 h2=>?_
 have:=h i h1
 unfold nI at this
 rw [af h1,af h2] at this
 exact this
theorem ZI (hr:1<=r) (hm:qE seen.length r ms) (h:okB r seen ms []=true):∃ l∈EV0 r (LS seen),jA l seen r=ms:=by
 obtain ⟨l,hl,hs⟩:=qgD hr hm h
 refine ⟨l,hl,qe9 (by rw [vC,hm.1]) fun i hi=>aY fun z=>?_⟩
 have:=hs i (aD.mpr ⟨aL.mpr (by rw [vC] at hi; exact hi),decide_eq_true z⟩)
 cases this
abbrev Nm:=Nat×List Int
noncomputable def LT2 (a b:Nm):Bool:=if a.1=b.1 then (if a.2=b.2 then false else ltZ a.2 b.2) else decide (a.1 < b.1)
noncomputable def wn (seen:List Pr) (r:Int) (ns:List Int) (l:Ln):Nm:=((wr seen.length (jA l seen r) ns).length,jA l seen r)
noncomputable def MD (r:Int) (seen:List Pr) (ns:List Int) (f0:Wk) (fs:List Wk):List Int:=Vi (lw r seen ns f0) (fs.map (lw r seen ns))
theorem ua (hr:1<=r) (hn:qE seen.length r ns) {fs:List Wk} (h:FW seen.length (okB r seen ns) seen.length [[]]=f0::fs) :
  (∃ l∈EV0 r (LS seen),wn seen r ns l=(f0.length,MD r seen ns f0 fs))/\∀ l,wn seen r ns l≠(f0.length,MD r seen ns f0 fs)->LT2 (f0.length,MD r seen ns f0 fs) (wn seen r ns l)=true/\LT2 (wn seen r ns l) (f0.length,MD r seen ns f0 fs)=false:=by
 have hF:=ZH h
 obtain ⟨_,_,hmin⟩:=Ks h
 obtain ⟨ma,mb⟩:=VS (fs.map (lw r seen ns)) (lw r seen ns f0)
 have hmap:lw r seen ns f0::fs.map (lw r seen ns)=(f0::fs).map (lw r seen ns):=rfl
 rw [hmap] at ma mb
 have hM:Vi (lw r seen ns f0) (fs.map (lw r seen ns))=MD r seen ns f0 fs:=rfl
 rw [hM] at ma mb
 have hlw:∀ g∈f0::fs,_:=fun g hg=>qe8 hr g ns hn ((hF g).mp hg).1.1 ((hF g).mp hg).1.2 ((hF g).mp hg).2.2
 refine ⟨?_,fun l hne=>?_⟩
 ·obtain ⟨g,hg,e⟩:=aj.mp ma
  obtain ⟨a,b,c,_⟩:=hlw g hg
  obtain ⟨l,hl,hnl⟩:=ZI hr a b
  refine ⟨l,hl,?_⟩
  unfold wn
  rw [hnl]
  have hw:wr seen.length (lw r seen ns g) ns=g:=ZF _ _ (Ui _ _ _).1 ((hF g).mp hg).1.1 (fun k hk=>aY fun z=>of_decide_eq_true (aD.mp hk).2 (c k z)) (by
   rw [((hF g).mp hg).2.1]
   refine hmin _ (Ui _ _ _) ?_
   rw [<-hnl]
   exact qdf hr hn l)
  rw [hw,((hF g).mp hg).2.1,e]
 ·have hle:=hmin _ (Ui _ (jA l seen r) ns) (qdf hr hn l)
  unfold wn at hne ⊢
  generalize hg:wr seen.length (jA l seen r) ns=g at hle hne ⊢
  unfold LT2
  by_cases q:g.length=f0.length
  ·have hgF:g∈f0::fs:=(hF g).mpr ⟨by rw [<-hg]; exact Ui _ _ _,q,by rw [<-hg]; exact qdf hr hn l⟩
   obtain ⟨_,_,_,d⟩:=hlw g hgF
   have hd:=d (jA l seen r) (VT l seen hr) (Yi l seen hr) fun i hi hig=>aY fun z=>hig (by rw [<-hg]; exact aD.mpr ⟨aL.mpr hi,decide_eq_true z⟩)
   have hmg:=mb _ (aj.mpr ⟨g,hgF,rfl⟩)
   have hnm:jA l seen r≠MD r seen ns f0 fs:=fun z=>hne (by rw [q,z])
   have hlt:ltZ (MD r seen ns f0 fs) (jA l seen r)=true:=by
    rcases hd with e | e
    ·rcases hmg with e2 | e2
     ·exact absurd (e.trans e2) hnm
     ·rw [e]; exact e2
    ·rcases hmg with e2 | e2
     ·rw [<-e2]; exact e
     ·exact yN _ _ _ e2 e
   have hnm':MD r seen ns f0 fs≠jA l seen r:=fun z=>hnm z.symm
   simp only [q,if_true,if_neg hnm,if_neg hnm']
   exact ⟨hlt,Uj _ _ hlt⟩
  ·have q':¬f0.length=g.length:=fun z=>q z.symm
   simp only [if_neg q,if_neg q']
   exact ⟨decide_eq_true (by omega),decide_eq_false (by omega)⟩
theorem Uk:∀ (ks:Wk) (x:Option D),(∀ k∈ks,k < ms.length)->∃ x',jt (gNm 0) ftT (d2O 1 ixD (qe 0)) (inL ks) [x,some (iD ms)]=.ok ((sub ms ks).map D.int,[x',some (iD ms)])
 | [],x,_=>⟨x,rfl⟩
 | k::ks,x,h=>by
  have hk:=h k (ah ..)
  have i1:=WW ms k hk
  obtain ⟨x',ih⟩:=Uk ks (some (.int (k:Nat))) fun j hj=>h j (aa _ hj)
  refine ⟨x',?_⟩
  have e:sub ms (k::ks)=nI ms k::sub ms ks:=by
   rw [zg (af hk)]
   unfold nI
   rw [af hk]
   rfl
  rw [e]
  show jt _ _ _ (.int (k:Nat)::inL ks) _=_
  simp [jt,yS,d2O,i1,ih]
theorem qdg (S:Sn seen W) (hr:1<=r) (hn:qE seen.length r ns) (g:Wk) (hg:g.length<=2000) :
  qL [sD seen,.int r,iD ns,gD g]=.ok (.bl (okB r seen ns g),[.non,.non,iD ns,.non]):=by
 have h6:=S.n
 have hkl:=Ud seen.length g
 have hlt:=VP (n:=seen.length) (g:=g)
 have hri:kx (d1 jF (qe 0)) [some (sD seen),some (.int r),some (iD ns),some (gD g),none]=.ok ((aF seen.length).map fun (j:Nat)=>.int j,[some (sD seen),some (.int r),some (iD ns),some (gD g),none]):=by
  rw [iR0 (k:=(seen.length:Int)) (ρ1:=[some (sD seen),some (.int r),some (iD ns),some (gD g),none]) (by omega) (by omega) (by simp [jF,jY]),cB]
  simp [xQ]
 have c1:=WV (own:=[2]) (cap:=[3]) (fi:=kx (d1 jF (qe 0))) (ft:=je (d2 xT (qe 0) (qe 1))) (fe:=qe 0) (fun d=>match d with | .int i=>decide (i.toNat∉g) | _=>false) (fun d=>d) (by decide) hri (by simp; exact jz (by omega)) (fun d hd=>by
  obtain ⟨j,hj,rfl⟩:=aj.mp hd
  have:=Ue j g
  simp [this]) (fun d hd _=>by simp)
 have e1:(((aF seen.length).map fun (j:Nat)=>D.int j).filter fun d=>match d with | .int i=>decide (i.toNat∉g) | _=>false).map (fun d=>d)=inL (kept seen.length g):=by
  rw [e6,d6]
  unfold inL kept
  congr 1
 rw [e1] at c1
 generalize hks:kept seen.length g=ks at c1 hkl hlt
 have c2:=QO (own:=[2]) (cap:=[0]) (fi:=km (qe 4)) (fe:=d2 ixD (qe 1) (qe 0)) (ρ:=[some (sD seen),some (.int r),some (iD ns),some (gD g),some (.lst (inL ks))]) (ρ1:=[some (sD seen),some (.int r),some (iD ns),some (gD g),some (.lst (inL ks))]) (ds:=inL ks) (fun d=>match d with | .int i=>pD ((seen[i.toNat]?).getD (⟨#[]⟩,⟨#[]⟩)) | d=>d) (by decide) (by simp [jL]) (by rw [wp]; exact jz (by omega)) (fun d hd=>by
  obtain ⟨j,hj,rfl⟩:=aj.mp hd
  have hjl:=hlt j hj
  have:=qe4 (af hjl)
  simp [this,af hjl])
 have e2:(inL ks).map (fun d=>match d with | .int i=>pD ((seen[i.toNat]?).getD (⟨#[]⟩,⟨#[]⟩)) | d=>d)=jY (sub seen ks):=by
  unfold inL jY sub
  rw [bo,eB]
  have:∀ l:Wk,(∀ k∈l,k < seen.length)->l.map ((fun d=>match d with | .int i=>pD ((seen[i.toNat]?).getD (⟨#[]⟩,⟨#[]⟩)) | d=>d) ∘ fun (k:Nat)=>D.int (k:Nat))=l.filterMap fun k=>(seen[k]?).map fun x=>.tup [.str x.1,.str x.2]:=fun l=>by
   induction l with
   | nil=>intro _; rfl
   | cons k l ih=>
    intro h
    have hk:=h k (ah ..)
    rw [aC,ih (fun j hj=>h j (aa _ hj)),cI (by rw [af hk]; rfl)]
    simp [af hk]
  exact this ks hlt
 rw [e2] at c2
 have hltn:∀ k∈ks,k < ns.length:=fun k hk=>by rw [hn.1]; exact hlt k hk
 obtain ⟨x',pc⟩:=Uk (ms:=ns) ks none hltn
 have c3:=yK (own:=[2]) (cap:=[2]) (nt:=1) (fi:=km (qe 4)) (g:=gNm 0) (ft:=ftT) (fe:=d2O 1 ixD (qe 0)) (ρ:=[some (sD seen),some (.int r),some (iD ns),some (gD g),some (.lst (inL ks))]) (ρ1:=[some (sD seen),some (.int r),some (iD ns),some (gD g),some (.lst (inL ks))]) (ds:=inL ks) (by simp [jL]) (by rw [wp]; exact jz (by omega)) pc
 have hout:jx [2] [x',some (iD ns)] 1 [2] [some (sD seen),some (.int r),some (iD ns),some (gD g),some (.lst (inL ks))]=[some (sD seen),some (.int r),some (iD ns),some (gD g),some (.lst (inL ks))]:=rfl
 rw [hout] at c3
 obtain ⟨W',S'⟩:=qbt S ks (by omega)
 have hn':qE (sub seen ks).length r (sub ns ks):=⟨by rw [kj seen ks hlt,kj ns ks hltn],fun i hi=>hn.2 i (QZ hi)⟩
 have hb:=gb S' (WW (sub ns ks)) hn'.1 hr
 obtain ⟨_,cnt⟩:=Zw S' hr hn'
 have hbo:qL [sD seen,.int r,iD ns,gD g]=.ok (.bl (decide (BO W' (sub seen ks) r (sub ns ks)=none)),[.non,.non,iD ns,.non]):=by
  refine runD_ap.trans ?_
  unfold jW
  rw [show qw qU [sD seen,.int r,iD ns,gD g]=[some (sD seen),some (.int r),some (iD ns),some (gD g),none] from rfl]
  refine (qB (ρ1:=[some (sD seen),some (.int r),some (iD ns),some (gD g),some (.lst (inL ks))]) (by rw [yW,c1]; rfl)).trans ?_
  cases q:BO W' (sub seen ks) r (sub ns ks) with
  | none=>
   rw [q] at hb
   simp [c2,c3,qy,jl,hb,qcb,qv]
  | some c=>
   rw [q] at hb
   simp [c2,c3,qy,jl,hb,qcb,cd,qv]
 have e5:okB r seen ns g=decide (BO W' (sub seen ks) r (sub ns ks)=none):=by
  unfold okB slv
  rw [hks]
  exact (decide_eq_decide.mpr cnt).symm
 rw [hbo,e5]
theorem qdh {xs:List D} (h6:xs.length<=6) {j:Nat} (hj:j<=6):slD (some ((j:Int)+1)) none none (.tup xs)=.ok (.tup (xs.drop (j+1))):=by
 have hj':j=0\/j=1\/j=2\/j=3\/j=4\/j=5\/j=6:=by omega
 match xs,h6 with
 | [],_=>rcases hj' with rfl | rfl | rfl | rfl | rfl | rfl | rfl <;> kernel_rfl
 | [_],_=>rcases hj' with rfl | rfl | rfl | rfl | rfl | rfl | rfl <;> kernel_rfl
 | [_,_],_=>rcases hj' with rfl | rfl | rfl | rfl | rfl | rfl | rfl <;> kernel_rfl
 | [_,_,_],_=>rcases hj' with rfl | rfl | rfl | rfl | rfl | rfl | rfl <;> kernel_rfl
 | [_,_,_,_],_=>rcases hj' with rfl | rfl | rfl | rfl | rfl | rfl | rfl <;> kernel_rfl
 | [_,_,_,_,_],_=>rcases hj' with rfl | rfl | rfl | rfl | rfl | rfl | rfl <;> kernel_rfl
 | [_,_,_,_,_,_],_=>rcases hj' with rfl | rfl | rfl | rfl | rfl | rfl | rfl <;> kernel_rfl
 | _::_::_::_::_::_::_::_,h=>simp at h
abbrev lwC (G:List D->Out (D×List D)):Sl->Out (Bool×Sl):=(KQ (zl (qt [.vl,.vl,.sl 4,.vl] G (qd (qe 0) (qd (qe 1) (vd (qd (Wu (qe 3) (some (d2 jJ (qe 5) (dC (.int 1)))) none none) qH)))))))
abbrev lwS:Sl->Out (Fl×Sl):=(zD 4 (d2 jJ (d2O 4 ixD (qe 6)) (dC (.int 1))) (qe 6))
theorem qbz {rd:D} (h6:g.length<=6) {k:Nat} (hi:i<=6) {b:Bool} {n:Option D} (hG:G [sd,rd,iD ms,gD (g.drop (i+1))]=.ok (.bl b,[.non,.non,iD ms,.non])) :
  lwC G [some sd,some rd,n,some (gD g),some (iD ms),some (.int (i:Nat)),some (.int (k:Nat))]=.ok (!b,[some sd,some rd,n,some (gD g),some (iD ms),some (.int (i:Nat)),some (.int (k:Nat))]):=by
 have hs:slD (some ((i:Int)+1)) none none (gD g)=.ok (gD (g.drop (i+1))):=by
  have h:=qdh (xs:=inL g) (by rw [wp]; exact h6) hi
  have e:(inL g).drop (i+1)=inL (g.drop (i+1)):=by unfold inL; rw [List.map_drop]
  rw [e] at h
  exact h
 generalize gD (g.drop (i+1))=Y at hG hs
 generalize gD g=T at hs ⊢
 simp [Wu,Qc,jJ,uy,hs,qy,jl,hG,ye,yU]
theorem qfa {k:Nat} (hk:k < ms.length) {a b c d e:Option D}:lwS [a,b,c,d,some (iD ms),e,some (.int (k:Nat))]=.ok (.nx,[a,b,c,d,some (iD (ms.set k (nI ms k+1))),e,some (.int (k:Nat))]):=by
 have i3:=WW ms k hk
 have hix:ixN (ms.map D.int).length (k:Nat)=some k:=by
  unfold ixN
  rw [au,if_pos (by omega),if_pos (by omega),cB]
 have hset:(ms.map D.int).set k (.int (nI ms k+1))=(ms.set k (nI ms k+1)).map D.int:=by rw [List.map_set]
 simp only [lwS,zD]
 simp [d2O,i3,jJ,uy]
 simp at hix hset
 simp [hix,hset]
theorem Ul {G:List D->Out (D×List D)} {sd rd:D} {g:Wk} (h6:g.length<=6) {i k:Nat} (hi:i<=6) {fs:List Int} (hk:k < fs.length) {x:Nat} {n:Option D}
  (hG:∀ v:Nat,v<=x->G [sd,rd,iD (fs.set k (v:Nat)),gD (g.drop (i+1))]=.ok (.bl (decide (v=x)),[.non,.non,iD (fs.set k (v:Nat)),.non])):∀ (m v fuel:Nat),v+m=x->m < fuel ->
  jf (lwC G) lwS fuel [some sd,some rd,n,some (gD g),some (iD (fs.set k (v:Nat))),some (.int (i:Nat)),some (.int (k:Nat))]=.ok (.nx,[some sd,some rd,n,some (gD g),some (iD (fs.set k (x:Nat))),some (.int (i:Nat)),some (.int (k:Nat))])
 | _,_,0,_,h=>by omega
 | 0,v,fuel+1,hv,_=>by
  have e:v=x:=by omega
  subst e
  have hc:=qbz (n:=n) (k:=k) h6 hi (hG v (ax _))
  rw [decide_eq_true rfl] at hc
  rw [jf,hc]
  rfl
 | m+1,v,fuel+1,hv,hm=>by
  have hc:=qbz (n:=n) (k:=k) h6 hi (hG v (by omega))
  rw [decide_eq_false (by omega)] at hc
  have hs:=qfa (ms:=fs.set k (v:Nat)) (k:=k) (by rw [cy]; exact hk) (a:=some sd) (b:=some rd) (c:=n) (d:=some (gD g)) (e:=some (.int (i:Nat)))
  have e:(fs.set k (v:Nat)).set k (nI (fs.set k (v:Nat)) k+1)=fs.set k ((v+1:Nat):Int):=by
   rw [List.set_set,ge hk,if_pos rfl]
   rfl
  rw [e] at hs
  have ih:=Ul h6 hi hk hG (n:=n) m (v+1) fuel (by omega) (by omega)
  rw [jf,hc,vM]
  simp only [Bool.not_false,if_true]
  rw [hs,vM]
  exact ih
abbrev lwT (G:List D->Out (D×List D)):Sl->Out (Fl×Sl):=(ji (zD 4 (dC (.int 0)) (qe 6)) (jf (lwC G) lwS 20))
theorem qdi {G:List D->Out (D×List D)} {sd rd:D} (h6:g.length<=6) {k:Nat} (hi:i<=6) {fs:List Int} (hk:k < fs.length) {x:Nat} (hx:x < 19) {n:Option D}
  (hG:∀ v:Nat,v<=x->G [sd,rd,iD (fs.set k (v:Nat)),gD (g.drop (i+1))]=.ok (.bl (decide (v=x)),[.non,.non,iD (fs.set k (v:Nat)),.non])) :
  lwT G [some sd,some rd,n,some (gD g),some (iD fs),some (.int (i:Nat)),some (.int (k:Nat))]=.ok (.nx,[some sd,some rd,n,some (gD g),some (iD (fs.set k (x:Nat))),some (.int (i:Nat)),some (.int (k:Nat))]):=by
 have hix:ixN (fs.map D.int).length (k:Nat)=some k:=by
  unfold ixN
  rw [au,if_pos (by omega),if_pos (by omega),cB]
 have hset:(fs.map D.int).set k (.int 0)=(fs.set k ((0:Nat):Int)).map D.int:=by rw [List.map_set]; rfl
 have hw:=Ul h6 hi hk hG (n:=n) x 0 20 (by omega) (by omega)
 unfold lwT
 rw [qbm (ρ1:=[some sd,some rd,n,some (gD g),some (iD (fs.set k ((0:Nat):Int))),some (.int (i:Nat)),some (.int (k:Nat))]) (by
  simp only [zD]
  simp
  simp at hix hset
  simp [hix,hset])]
 exact hw
theorem qbA {seen:List Pr} {W:Wy} (S:Sn seen W) {r:Int} (hr:1<=r) (h9:r<=18) {g:Wk} (h6:g.length<=6) {n:Option D}:∀ (suf:Wk) (i:Nat) (fs:List Int) (x5 x6:Option D),g.drop i=suf->i+suf.length<=6->qE seen.length r fs->(∀ k∈suf,k < seen.length)->okB r seen fs suf=true ->
  ∃ x5' x6',wz (kz 2 (qJ (gNm 5) (qJ (gNm 6) ky))) (lwT qL) (((inL suf).zipIdx i).map fun p=>.tup [.int (p.2:Nat),p.1]) [some (sD seen),some (.int r),n,some (gD g),some (iD fs),x5,x6]
   = .ok (.nx,[some (sD seen),some (.int r),n,some (gD g),some (iD (lw r seen fs suf)),x5',x6'])
 | [],i,fs,x5,x6,_,_,_,_,_=>⟨x5,x6,rfl⟩
 | k::rest,i,fs,x5,x6,hd,hl,hn,hb,ho=>by
  rw [ap] at hl
  have hk:=hb k (ah ..)
  obtain ⟨l1,l2,l3⟩:=qe7 hr hn hk ho
  have hd2:g.drop (i+1)=rest:=by rw [<-List.drop_drop,hd]; rfl
  have hrl:rest.length<=2000:=by omega
  generalize hv:lv r seen fs k rest=x at l1 l2 l3
  have t:=qdi (G:=qL) (sd:=sD seen) (rd:=.int r) h6 (i:=i) (k:=k) (by omega) (fs:=fs) (by rw [hn.1]; exact hk) (x:=x) (by omega) (n:=n) fun v hvx=>by
   have hc:=qdg S hr (Kv hn (x:=(v:Nat)) (by omega) (by omega) k) rest hrl
   rw [hd2,hc]
   by_cases q:v=x
   ·rw [decide_eq_true q,q,l2]
   ·rw [decide_eq_false q,l3 v (by omega)]
  obtain ⟨x5',x6',ih⟩:=qbA S hr h9 h6 (n:=n) rest (i+1) (fs.set k (x:Nat)) (some (.int (i:Nat))) (some (.int (k:Nat))) hd2 (by omega) (Kv hn (by omega) l1 k) (fun j hj=>hb j (aa _ hj)) l2
  refine ⟨x5',x6',?_⟩
  have e:lw r seen fs (k::rest)=lw r seen (fs.set k (x:Nat)) rest:=by show lw r seen (fs.set k (lv r seen fs k rest:Nat)) rest=_; rw [hv]
  rw [e]
  show wz _ _ (.tup [.int (i:Nat),.int (k:Nat)]::((inL rest).zipIdx (i+1)).map fun p=>.tup [.int (p.2:Nat),p.1]) _=_
  generalize qL=G at t ih
  exact cZ (uF (ρ1:=[some (sD seen),some (.int r),n,some (gD g),some (iD fs),some (.int (i:Nat)),some (.int (k:Nat))]) rfl t) ih
theorem qaM (S:Sn seen W) (hr:1<=r) (h9:r<=18) (hn:qE seen.length r ns) (hg:Inc seen.length g) (ho:okB r seen ns g=true):va [sD seen,.int r,nD ns,gD g]=.ok (nD (lw r seen ns g),[.non,.non,.non,.non]):=by
 have h6:=S.n
 have hgl:g.length<=6:=bc (VR hg) h6
 obtain ⟨x5,x6,e⟩:=qbA S hr h9 hgl (n:=some (nD ns)) g 0 ns none none rfl (by omega) hn hg.2 ho
 refine runD_ap.trans ?_
 unfold kZ
 rw [show qw kY [sD seen,.int r,nD ns,gD g]=[some (sD seen),some (.int r),some (nD ns),some (gD g),none,none,none] from rfl]
 generalize qL=G at e
 refine (qB (ρ1:=[some (sD seen),some (.int r),some (nD ns),some (gD g),some (iD ns),none,none]) (by simp [qcp])).trans ?_
 refine (qB (ρ1:=[some (sD seen),some (.int r),some (nD ns),some (gD g),some (iD (lw r seen ns g)),x5,x6]) (by
  rw [vG,show XJ (qe 3) [some (sD seen),some (.int r),some (nD ns),some (gD g),some (iD ns),none,none]=.ok (uN (inL g),[some (sD seen),some (.int r),some (nD ns),some (gD g),some (iD ns),none,none]) from rfl,vM]
  exact e)).trans ?_
 simp [yo,qv]
variable {L:List D->Out (D×List D)}
theorem Kw {c:D} (f:Wk->List Int):∀ (gs:List Wk) (x:Option D),(∀ g∈gs,L [a,b,c,gD g]=.ok (nD (f g),[.non,.non,.non,.non])) ->
  ∃ x',jt (gNm 0) ftT (qt [.vl,.vl,.vl,.vl] L (qd (qe 1) (qd (qe 2) (qd (qe 3) (qd (qe 0) qH))))) (gR gs) [x,some a,some b,some c]=.ok (gs.map fun g=>nD (f g),[x',some a,some b,some c])
 | [],x,_=>⟨x,rfl⟩
 | g::gs,x,h=>by
  have h1:=h g (ah ..)
  obtain ⟨x',ih⟩:=Kw f gs (some (gD g)) fun j hj=>h j (aa _ hj)
  refine ⟨x',?_⟩
  show jt _ _ _ (gD g::gR gs) _=_
  generalize gD g=Y at h1 ih
  simp [jt,yS,qy,jl,h1,ih]
theorem yt:∀ l:List Int,zC (l.map D.int)=some l
 | []=>rfl
 | x::l=>by
  have ih:=yt l
  simp [zC,ih]
theorem Um (f:Wk->List Int):∀ gs:List Wk,gq (gs.map fun g=>nD (f g))=some (gs.map f)
 | []=>rfl
 | g::gs=>by
  have ih:=Um f gs
  have h:=yt (f g)
  simp only [aC,gq,h,ih]
  rfl
theorem qaN {T F:List D->Out (D×List D)} {c:D} {f:Wk->List Int} {fs:List Wk} (hz:(f0::fs).length<=sizeLine) (h1:T [a,b,c,d]=.ok (sd,[.non,.non,.non,.non])) (h2:F [sd,c,d]=.ok (.lst (gR (f0::fs)),[.non,.non,.non])) (h3:∀ g∈f0::fs,L [sd,c,d,gD g]=.ok (nD (f g),[.non,.non,.non,.non])) :
  UM [.val,.val,.val,.val] ((ji (kb 4 (qt [.vl,.vl,.vl,.vl] T (qd (qe 0) (qd (qe 1) (qd (qe 2) (qd (qe 3) qH))))))
  (jZ (d1 qal (ju [] 1 [4,2,3] (km (qt [.vl,.vl,.vl] F (qd (qe 4) (qd (qe 2) (qd (qe 3) qH))))) (gNm 0) ftT (qt [.vl,.vl,.vl,.vl] L (qd (qe 1) (qd (qe 2) (qd (qe 3) (qd (qe 0) qH))))))))) [some a,some b,some c,some d,none])=.ok (nD (Vi (f f0) (fs.map f)),[.non,.non,.non,.non]):=by
 obtain ⟨x',cc⟩:=Kw (a:=sd) (b:=c) (c:=d) f (f0::fs) none h3
 have c3:=yK (own:=[]) (cap:=[4,2,3]) (nt:=1) (fi:=km (qt [.vl,.vl,.vl] F (qd (qe 4) (qd (qe 2) (qd (qe 3) qH))))) (g:=gNm 0) (ft:=ftT) (fe:=qt [.vl,.vl,.vl,.vl] L (qd (qe 1) (qd (qe 2) (qd (qe 3) (qd (qe 0) qH))))) (ρ:=[some a,some b,some c,some d,some sd]) (ρ1:=[some a,some b,some c,some d,some sd]) (ds:=gR (f0::fs)) (by simp [qy,jl,h2,jL]) (by unfold gR; rw [au]; exact hz) cc
 have hout:jx [] [x',some sd,some c,some d] 1 [4,2,3] [some a,some b,some c,some d,some sd]=[some a,some b,some c,some d,some sd]:=rfl
 rw [hout] at c3
 have hm:qal (.lst ((f0::fs).map fun g=>nD (f g)))=.ok (nD (Vi (f f0) (fs.map f))):=by
  have:=Um f (f0::fs)
  show (match gq ((f0::fs).map fun g=>nD (f g)) with | some (t::ts)=>Out.ok (D.tup ((Vi t ts).map D.int)) | _=>.bad)=_
  rw [this]
  rfl
 refine (qB (ρ1:=[some a,some b,some c,some d,some sd]) (by simp [qy,jl,h1])).trans ?_
 generalize hG:(f0::fs).map (fun g=>nD (f g))=Gs at c3 hm
 simp [c3,hm,qv]
theorem qbB {n:Nat} (hn:n<=6) {P:Wk->Bool}:∀ (m:Nat) (cs:List Wk),(FW n P m cs).length<=6 ^ m * cs.length
 | 0,cs=>by
  show (cs.filter P).length<=6 ^ 0 * cs.length
  rw [Nat.pow_zero,Nat.one_mul]
  exact b6 _ _
 | m+1,cs=>by
  have ih:=qbB hn (P:=P) m (OL n cs)
  have h2:=Zz hn cs
  have h3:6 ^ m * (OL n cs).length<=6 ^ m * (6 * cs.length):=Nat.mul_le_mul_left _ h2
  have h4:6 ^ m * (6 * cs.length)=6 ^ (m+1) * cs.length:=by rw [Nat.pow_succ,Nat.mul_assoc]
  unfold FW
  split
  ·omega
  ·have h5:=b6 P cs
   have h6:1 * cs.length<=6 ^ (m+1) * cs.length:=Nat.mul_le_mul_right _ (Nat.one_le_pow _ _ (by omega))
   omega
theorem gf (hw:jE ws) {p:Int} (hl:Yk p q) (h0:1<=r) (h9:r<=18) (hn:qE ws.length r ns) (S:Sn (qA ws p q) W) :
  ∃ f0 fs,FW (qA ws p q).length (okB r (qA ws p q) ns) (qA ws p q).length [[]]=f0::fs/\yH [Wd ws,Ld p q,.int r,nD ns]=.ok (nD (MD r (qA ws p q) ns f0 fs),[.non,.non,.non,.non]):=by
 have hsl:(qA ws p q).length=ws.length:=by simp [qA]
 have hn':qE (qA ws p q).length r ns:=by rw [hsl]; exact hn
 have e1:=VL hw hl h0 (by omega) hn
 obtain ⟨f0,fs,a1,hf⟩:=Kr S h0 hn'
 have hF:=ZH a1
 have hlen:=qbB S.n (P:=okB r (qA ws p q) ns) (qA ws p q).length [[]]
 rw [a1] at hlen
 have h66:6 ^ (qA ws p q).length<=6 ^ 6:=dZ (by omega) S.n
 have hz:(f0::fs).length<=sizeLine:=by
  refine bc ?_ ZD
  have:(6:Nat) ^ 6=46656:=by decide
  rw [List.length_singleton] at hlen
  omega
 exact ⟨f0,fs,a1,runD_ap.trans (qaN hz e1 hf fun g hg=>qaM S h0 h9 hn' ((hF g).mp hg).1 ((hF g).mp hg).2.2)⟩
theorem Uo (k:Nat):∀ (a b:List Int),eqN (k+1) (nD a) (nD b)=some (decide (a=b)):=by
 have h:∀ (a b:List Int),uc (eqN k) (a.map D.int) (b.map D.int)=some (decide (a.take (min a.length b.length)=b.take (min a.length b.length))):=by
  intro a
  induction a with
  | nil=>intro b; simp [uc]
  | cons x a ih=>
   intro b
   cases b with
   | nil=>simp [uc]
   | cons y b=>
    have e:eqN k (.int x) (.int y)=some (decide (x=y)):=by
     cases k <;> (by_cases q:x=y <;> simp [eqN,eqS,q])
    simp only [aC,uc,ih b,e,ap,show min (a.length+1) (b.length+1)=min a.length b.length+1 by omega,List.take_succ_cons]
    by_cases q:x=y <;> simp [q]
 intro a b
 by_cases hl:a.length=b.length
 ·have e:=h a b
  rw [hl,Nat.min_self,eV,<-hl,eV] at e
  simp [eqN,hl,e]
 ·have hne:a≠b:=fun z=>hl (by rw [z])
  simp [eqN,hl,hne,h]
variable {s1 s2:List Pr}
theorem mem_app:x∈LS (s1++s2)↔x∈LS s1\/x∈LS s2:=by
 rw [mem_LS,mem_LS,mem_LS]
 constructor
 ·rintro ⟨p,hp,h⟩
  rcases ak.mp hp with hp | hp
  ·exact .inl ⟨p,hp,h⟩
  ·exact .inr ⟨p,hp,h⟩
 ·rintro (⟨p,hp,h⟩ | ⟨p,hp,h⟩)
  ·exact ⟨p,ak.mpr (.inl hp),h⟩
  ·exact ⟨p,ak.mpr (.inr hp),h⟩
theorem qgE {a b:List Int} {k:Nat} (h:k < a.length):nI (a++b) k=nI a k:=by
 unfold nI
 rw [bJ h]
theorem qgF (a b:List Int) (k:Nat):nI (a++b) (a.length+k)=nI b k:=by
 unfold nI
 rw [bF (c8 _ _),Nat.add_sub_cancel_left]
variable {s:List Pr} {m2 m:List Int} {l' l1 l2:Ln}
section
variable {m1:List Int}
theorem qaO (h1:m1.length=s1.length) (v:Str->Int) {k:Nat} (hk:k < s1.length):cnd (s1++s2) r (m1++m2) v k↔cnd s1 r m1 v k:=by
 unfold cnd
 rw [bJ hk,qgE (by omega)]
theorem qaP (h1:m1.length=s1.length) (v:Str->Int) (k:Nat):cnd (s1++s2) r (m1++m2) v (s1.length+k)↔cnd s2 r m2 v k:=by
 unfold cnd
 rw [bF (c8 _ _),Nat.add_sub_cancel_left,<-h1,qgF]
theorem ZJ {w:Str->Int} (h:∀ x∈LS s,v x=w x) {k:Nat} (hc:cnd s r m v k):cnd s r m w k:=fun p hp=>by
 have hm:=aU hp
 rw [<-h p.1 (mem_LS.mpr ⟨p,hm,.inl rfl⟩),<-h p.2 (mem_LS.mpr ⟨p,hm,.inr rfl⟩)]
 exact hc p hp
theorem sol_cnd:Sol s r m v↔∀ k,k < s.length->cnd s r m v k:=by
 constructor
 ·exact fun h k _ p hp=>h k p hp
 ·exact fun h k p hp=>h k (aA.mp hp).1 p hp
theorem ZK (h1:m1.length=s1.length):Sol (s1++s2) r (m1++m2) v↔Sol s1 r m1 v/\Sol s2 r m2 v:=by
 rw [sol_cnd,sol_cnd,sol_cnd]
 constructor
 ·intro h
  refine ⟨fun k hk=>(qaO h1 v hk).mp (h k (by rw [ai]; omega)),fun k hk=>(qaP h1 v k).mp (h (s1.length+k) (by rw [ai]; omega))⟩
 ·rintro ⟨a,b⟩ k hk
  rw [ai] at hk
  by_cases q:k < s1.length
  ·exact (qaO h1 v q).mpr (a k q)
  ·have:=(qaP (s2:=s2) (r:=r) (m2:=m2) h1 v (k - s1.length)).mpr (b _ (by omega))
   rw [show s1.length+(k - s1.length)=k by omega] at this
   exact this
theorem ZL {w:Str->Int} (h:∀ x∈LS s,v x=w x) (hs:Sol s r m v):Sol s r m w:=sol_cnd.mpr fun k hk=>ZJ h (sol_cnd.mp hs k hk)
noncomputable def jv (s1:List Pr) (v w:Str->Int) (x:Str):Int:=if x∈LS s1 then v x else w x
noncomputable def jn (s1 s2:List Pr) (l1 l2:Ln):Ln:=(LS (s1++s2)).map fun x=>(x,jv s1 (jo l1) (jo l2) x)
noncomputable def rs (s:List Pr) (l:Ln):Ln:=(LS s).map fun x=>(x,jo l x)
theorem uv (n1:qE s1.length r m1) (n2:qE s2.length r m2):qE (s1++s2).length r (m1++m2):=
 ⟨by rw [ai,ai,n1.1,n2.1],fun i hi=>(ak.mp hi).elim (n1.2 i) (n2.2 i)⟩
theorem Ky {l:Ln} (h:x∈LS s):jo (rs s l) x=jo l x:=ki (fun x=>jo l x) h
theorem qbC (hr:1<=r) (hn:qE s.length r m) {l:Ln} (hb:∀ x∈LS s,0<=jo l x/\jo l x < r) (hs:Sol s r m (jo l)):rs s l∈slv r s m:=by
 refine (xq hr hn _).mpr ⟨⟨wt _ _,fun e he=>?_⟩,ZL (fun x hx=>(Ky hx).symm) hs⟩
 obtain ⟨x,hx,rfl⟩:=aj.mp he
 exact hb x hx
theorem qaQ {l:Ln} (hk:kh l=LS s) (hb:∀ e∈l,0<=e.2/\e.2 < r) (hx:x∈LS s):0<=jo l x/\jo l x < r:=hb _ (xo (by rw [hk]; exact hx)).1
theorem gh {l:Ln} (hk:kh l=LS s) (hk':kh l'=LS s) (h:∀ x∈LS s,jo l x=jo l' x):l=l':=by
 have e1:=uU (l:=l) (by rw [hk]; exact Zn _)
 have e2:=uU (l:=l') (by rw [hk']; exact Zn _)
 rw [e1,e2,hk,hk']
 exact bC fun x hx=>by rw [h x hx]
theorem qbD (h:x∈LS (s1++s2)):jo (jn s1 s2 l1 l2) x=jv s1 (jo l1) (jo l2) x:=ki _ h
theorem qfF (h:x∈LS s1):jo (jn s1 s2 l1 l2) x=jo l1 x:=by
 rw [qbD (mem_app.mpr (.inl h)),jv,if_pos h]
theorem qfG (dj:∀ x∈LS s1,x∉LS s2) (h:x∈LS s2):jo (jn s1 s2 l1 l2) x=jo l2 x:=by
 rw [qbD (mem_app.mpr (.inr h)),jv,if_neg fun z=>dj x z h]
theorem ZM {B:List β} (hB:B.Nodup):∀ A:List α,A.Nodup->(A.flatMap fun a=>B.map fun b=>(a,b)).Nodup
 | [],_=>.nil
 | a::A,h=>by
  obtain ⟨h1,h2⟩:=aK.mp h
  rw [dL]
  refine cg.mpr ⟨cV.mpr (hB.imp fun {x y} hxy z=>hxy (eY.inj z).2),ZM hB A h2,fun x hx y hy z=>?_⟩
  obtain ⟨b,_,rfl⟩:=aj.mp hx
  obtain ⟨a',ha',hy⟩:=bS.mp hy
  obtain ⟨b',_,rfl⟩:=aj.mp hy
  exact h1 (by rw [(eY.inj z).1]; exact ha')
theorem ZN (dj:∀ x∈LS s1,x∉LS s2) (hr:1<=r) (n1:qE s1.length r m1) (n2:qE s2.length r m2):(slv r (s1++s2) (m1++m2)).length=(slv r s1 m1).length * (slv r s2 m2).length:=by
 have n0:=uv n1 n2
 have hM:=fun l=>xq hr n0 l
 have hM1:=fun l=>xq hr n1 l
 have hM2:=fun l=>xq hr n2 l
 have hB:∀ a b,(a,b)∈((slv r s1 m1).flatMap fun a=>(slv r s2 m2).map fun b=>(a,b))↔a∈slv r s1 m1/\b∈slv r s2 m2:=fun a b=>by
  rw [bS]
  constructor
  ·rintro ⟨a',ha,h⟩
   obtain ⟨b',hb,e⟩:=aj.mp h
   cases e
   exact ⟨ha,hb⟩
  ·rintro ⟨ha,hb⟩
   exact ⟨a,ha,aj.mpr ⟨b,hb,rfl⟩⟩
 have hnd:=ZM (ZB (r:=r) (seen:=s2) (ns:=m2)) (slv r s1 m1) ZB
 rw [<-Uc (slv r s2 m2) (fun a b=>(a,b)) (slv r s1 m1)]
 refine d4 ?_ ?_
 ·refine QX (fun l=>(rs s1 l,rs s2 l)) ZB (fun l hl=>?_) fun l hl l' hl' e=>?_
  ·obtain ⟨⟨hk,hb⟩,hs⟩:=(hM l).mp hl
   obtain ⟨h1,h2⟩:=(ZK n1.1).mp hs
   exact (hB _ _).mpr ⟨qbC hr n1 (fun x hx=>qaQ hk hb (mem_app.mpr (.inl hx))) h1,qbC hr n2 (fun x hx=>qaQ hk hb (mem_app.mpr (.inr hx))) h2⟩
  ·have e1:=(eY.inj e).1
   have e2:=(eY.inj e).2
   refine gh ((hM l).mp hl).1.1 ((hM l').mp hl').1.1 fun x hx=>?_
   rcases mem_app.mp hx with hx | hx
   ·rw [<-Ky (l:=l) hx,<-Ky (l:=l') hx,e1]
   ·rw [<-Ky (l:=l) hx,<-Ky (l:=l') hx,e2]
 ·refine QX (fun p=>jn s1 s2 p.1 p.2) hnd (fun p hp=>?_) fun p hp p' hp' e=>?_
  ·obtain ⟨ha,hb⟩:=(hB p.1 p.2).mp hp
   obtain ⟨⟨k1,b1⟩,c1⟩:=(hM1 _).mp ha
   obtain ⟨⟨k2,b2⟩,c2⟩:=(hM2 _).mp hb
   refine (hM _).mpr ⟨⟨wt _ _,fun e he=>?_⟩,(ZK n1.1).mpr ⟨ZL (fun x hx=>(qfF hx).symm) c1,ZL (fun x hx=>(qfG dj hx).symm) c2⟩⟩
   obtain ⟨x,hx,rfl⟩:=aj.mp he
   show 0<=jv s1 (jo p.1) (jo p.2) x/\jv s1 (jo p.1) (jo p.2) x < r
   unfold jv
   split
   ·exact qaQ k1 b1 (by assumption)
   ·exact qaQ k2 b2 ((mem_app.mp hx).resolve_left (by assumption))
  ·obtain ⟨ha,hb⟩:=(hB p.1 p.2).mp hp
   obtain ⟨ha',hb'⟩:=(hB p'.1 p'.2).mp hp'
   have e:jn s1 s2 p.1 p.2=jn s1 s2 p'.1 p'.2:=e
   refine Prod.ext ?_ ?_
   ·exact gh ((hM1 _).mp ha).1.1 ((hM1 _).mp ha').1.1 fun x hx=>by rw [<-qfF (s2:=s2) (l2:=p.2) hx,e,qfF hx]
   ·exact gh ((hM2 _).mp hb).1.1 ((hM2 _).mp hb').1.1 fun x hx=>by rw [<-qfG dj (l1:=p.1) hx,e,qfG dj hx]
end
noncomputable def gl (n:Nat) (g:Wk):Wk:=g.filter fun k=>decide (k < n)
noncomputable def gr (n:Nat) (g:Wk):Wk:=(g.filter fun k=>decide (n<=k)).map (· - n)
noncomputable def sh (n:Nat) (g:Wk):Wk:=g.map (n + ·)
theorem mem_gl {k:Nat}:k∈gl n g↔k∈g/\k < n:=by simp [gl]
theorem mem_gr {k:Nat}:k∈gr n g↔n+k∈g:=by
 unfold gr
 rw [aj]
 constructor
 ·rintro ⟨a,ha,rfl⟩
  obtain ⟨h1,h2⟩:=aD.mp ha
  have:=of_decide_eq_true h2
  rw [show n+(a - n)=a by omega]
  exact h1
 ·intro h
  exact ⟨n+k,aD.mpr ⟨h,decide_eq_true (c8 _ _)⟩,by omega⟩
theorem Kz {n:Nat}:∀ {g:Wk},g.Pairwise (· < ·)->g=gl n g++sh n (gr n g)
 | [],_=>rfl
 | x::g,h=>by
  obtain ⟨h1,h2⟩:=aQ.mp h
  have ih:=Kz (n:=n) h2
  by_cases q:x < n
  ·have e1:gl n (x::g)=x::gl n g:=by simp [gl,q]
   have e2:gr n (x::g)=gr n g:=by simp [gr,show ¬n<=x by omega]
   rw [e1,e2,List.cons_append,<-ih]
  ·have e0:∀ {l:Wk},(∀ y∈l,n<=y)->l=gl n l++sh n (gr n l):=fun {l} hl=>by
    have e1:gl n l=[]:=List.filter_eq_nil_iff.mpr fun y hy=>by have:=hl y hy; simp; omega
    have e2:(l.filter fun k=>decide (n<=k))=l:=d8.mpr fun y hy=>decide_eq_true (hl y hy)
    unfold gr sh
    rw [e1,e2,bo,dg]
    have:l.map ((n + ·) ∘ (· - n))=l.map id:=bC fun y hy=>by have:=hl y hy; show n+(y - n)=y; omega
    rw [this,List.map_id]
   exact e0 fun y hy=>by
    rcases ac.mp hy with rfl | hy
    ·omega
    ·have:=h1 y hy; omega
theorem qfb {m:Nat} (h:Inc (n+m) g):Inc n (gl n g):=⟨h.1.filter _,fun k hk=>(mem_gl.mp hk).2⟩
theorem qfc {m:Nat} (h:Inc (n+m) g):Inc m (gr n g):=by
 refine ⟨cV.mpr ((h.1.filter _).imp_of_mem fun {a b} ha hb hab=>?_),fun k hk=>?_⟩
 ·have:=of_decide_eq_true (aD.mp ha).2
  have:=of_decide_eq_true (aD.mp hb).2
  omega
 ·have:=h.2 _ (mem_gr.mp hk)
  omega
variable {g1 g2:Wk}
theorem qdj {m:Nat} (h1:Inc n g1) (h2:Inc m g2):Inc (n+m) (g1++sh n g2):=by
 refine ⟨cC.mpr ⟨h1.1,cV.mpr (h2.1.imp fun {a b} h=>by omega),fun a ha b hb=>?_⟩,fun k hk=>?_⟩
 ·obtain ⟨c,hc,rfl⟩:=aj.mp hb
  have:=h1.2 a ha
  omega
 ·rcases ak.mp hk with hk | hk
  ·have:=h1.2 k hk; omega
  ·obtain ⟨c,hc,rfl⟩:=aj.mp hk
   have:=h2.2 c hc
   omega
section
variable {m1:List Int}
theorem ZO (dj:∀ x∈LS s1,x∉LS s2) (hr:1<=r) (n1:qE s1.length r m1) (n2:qE s2.length r m2) (h1:∀ k,k < s1.length->(k∈g↔k∈g1)) (h2:∀ k,k < s2.length->(s1.length+k∈g↔k∈g2)) :
  okB r (s1++s2) (m1++m2) g=true↔okB r s1 m1 g1=true/\okB r s2 m2 g2=true:=by
 rw [vI hr (uv n1 n2),vI hr n1,vI hr n2]
 constructor
 ·rintro ⟨v,hv⟩
  refine ⟨⟨v,fun k hk hkg=>(qaO n1.1 v hk).mp (hv k (by rw [ai]; omega) fun z=>hkg ((h1 k hk).mp z))⟩,⟨v,fun k hk hkg=>(qaP n1.1 v k).mp (hv (s1.length+k) (by rw [ai]; omega) fun z=>hkg ((h2 k hk).mp z))⟩⟩
 ·rintro ⟨⟨v,hv⟩,⟨w,hw⟩⟩
  refine ⟨jv s1 v w,fun k hk hkg=>?_⟩
  rw [ai] at hk
  by_cases q:k < s1.length
  ·refine (qaO n1.1 _ q).mpr (ZJ (fun x hx=>?_) (hv k q fun z=>hkg ((h1 k q).mpr z)))
   rw [jv,if_pos hx]
  ·have hk2:k - s1.length < s2.length:=by omega
   have e:s1.length+(k - s1.length)=k:=by omega
   have:=(qaP (s2:=s2) (r:=r) (m2:=m2) n1.1 (jv s1 v w) (k - s1.length)).mpr (ZJ (fun x hx=>by rw [jv,if_neg fun z=>dj x z hx]) (hw _ hk2 fun z=>hkg (by rw [<-e]; exact (h2 _ hk2).mpr z)))
   rw [e] at this
   exact this
end
theorem ZP:∀ a:Wk,ltW a a=false
 | []=>rfl
 | x::a=>by
  show (if x=x then ltW a a else _)=false
  rw [if_pos rfl]
  exact ZP a
theorem ZQ (x y:Wk):∀ a:Wk,ltW (a++x) (a++y)=ltW x y
 | []=>rfl
 | c::a=>by
  show (if c=c then ltW (a++x) (a++y) else _)=_
  rw [if_pos rfl]
  exact ZQ x y a
theorem Up (x y:Wk):∀ a b:Wk,a.length=b.length->ltW a b=true->ltW (a++x) (b++y)=true
 | [],[],_,h=>by simp [ltW] at h
 | [],_::_,h,_=>by cases h
 | _::_,[],h,_=>by cases h
 | c::a,d::b,hl,h=>by
  have h:(if c=d then ltW a b else decide (c < d))=true:=h
  show (if c=d then ltW (a++x) (b++y) else decide (c < d))=true
  by_cases q:c=d
  ·rw [if_pos q] at h ⊢
   exact Up x y a b (by simpa using hl) h
  ·rw [if_neg q] at h ⊢
   exact h
theorem qbE (n:Nat):∀ a b:Wk,ltW (sh n a) (sh n b)=ltW a b
 | [],[]=>rfl
 | [],_::_=>rfl
 | _::_,[]=>rfl
 | c::a,d::b=>by
  show (if n+c=n+d then ltW (sh n a) (sh n b) else decide (n+c < n+d))=if c=d then ltW a b else decide (c < d)
  rw [qbE n a b]
  by_cases q:c=d
  ·rw [if_pos q,if_pos (by omega)]
  ·rw [if_neg q,if_neg (by omega)]
   congr 1
   exact propext ⟨fun h=>by omega,fun h=>by omega⟩
theorem Uq {a b:Wk} (h:LT a b=true):a.length<=b.length/\(a.length=b.length->ltW a b=true):=by
 unfold LT at h
 by_cases q:a.length=b.length
 ·rw [if_pos q] at h
  by_cases q2:a=b
  ·rw [if_pos q2] at h; cases h
  ·rw [if_neg q2] at h
   exact ⟨by omega,fun _=>h⟩
 ·rw [if_neg q] at h
  have:=of_decide_eq_true h
  exact ⟨by omega,fun z=>absurd z q⟩
theorem qfd {f1 f2:Wk} (h1:f1=g1\/LT f1 g1=true) (h2:f2=g2\/LT f2 g2=true) (hne:¬(f1=g1/\f2=g2)):LT (f1++sh n f2) (g1++sh n g2)=true:=by
 have l1:f1.length<=g1.length:=h1.elim (fun e=>by rw [e]; exact ax _) fun h=>(Uq h).1
 have l2:f2.length<=g2.length:=h2.elim (fun e=>by rw [e]; exact ax _) fun h=>(Uq h).1
 have e1:(f1++sh n f2).length=f1.length+f2.length:=by simp [sh]
 have e2:(g1++sh n g2).length=g1.length+g2.length:=by simp [sh]
 unfold LT
 rw [e1,e2]
 by_cases q:f1.length+f2.length=g1.length+g2.length
 ·rw [if_pos q]
  have hw:ltW (f1++sh n f2) (g1++sh n g2)=true:=by
   rcases h1 with h1 | h1
   ·subst h1
    rw [ZQ,qbE]
    rcases h2 with h2 | h2
    ·exact absurd ⟨rfl,h2⟩ hne
    ·exact (Uq h2).2 (by omega)
   ·exact Up _ _ _ _ (by omega) ((Uq h1).2 (by omega))
  rw [if_neg fun z=>by rw [z,ZP] at hw; cases hw]
  exact hw
 ·rw [if_neg q]
  exact decide_eq_true (by omega)
theorem ZR {m1:List Int} (dj:∀ x∈LS s1,x∉LS s2) (hr:1<=r) (n1:qE s1.length r m1) (n2:qE s2.length r m2) {f1 f2 f0:Wk} {t1 t2 t0:List Wk}
  (h1:FW s1.length (okB r s1 m1) s1.length [[]]=f1::t1) (h2:FW s2.length (okB r s2 m2) s2.length [[]]=f2::t2) (h0:FW (s1++s2).length (okB r (s1++s2) (m1++m2)) (s1++s2).length [[]]=f0::t0):f0=f1++sh s1.length f2:=by
 rw [ai] at h0
 obtain ⟨i1,a1⟩:=yM h1
 obtain ⟨i2,a2⟩:=yM h2
 obtain ⟨i0,a0⟩:=yM h0
 have o1:=(Ks h1).1
 have o2:=(Ks h2).1
 have o0:=(Ks h0).1
 have hc:okB r (s1++s2) (m1++m2) (f1++sh s1.length f2)=true:=(ZO dj hr n1 n2 (g1:=f1) (g2:=f2) (fun k hk=>by
  rw [ak]
  refine ⟨fun z=>z.elim id fun z=>?_,.inl⟩
  obtain ⟨c,_,rfl⟩:=aj.mp z
  omega) fun k hk=>by
  rw [ak]
  refine ⟨fun z=>z.elim (fun z=>absurd (i1.2 _ z) (by omega)) fun z=>?_,fun z=>.inr (aj.mpr ⟨k,z,rfl⟩)⟩
  obtain ⟨c,hc,e⟩:=aj.mp z
  rw [show k=c by omega]
  exact hc).mpr ⟨o1,o2⟩
 obtain ⟨p1,p2⟩:=(ZO dj hr n1 n2 (g1:=gl s1.length f0) (g2:=gr s1.length f0) (fun k hk=>⟨fun z=>mem_gl.mpr ⟨z,hk⟩,fun z=>(mem_gl.mp z).1⟩) fun k hk=>mem_gr.symm).mp o0
 have e0:=Kz (n:=s1.length) i0.1
 refine aY fun hne=>?_
 have hlt:=(a0 _ (qdj i1 i2) hc fun z=>hne z.symm).2
 have b1:f1=gl s1.length f0\/LT f1 (gl s1.length f0)=true:=by
  by_cases q:gl s1.length f0=f1
  ·exact .inl q.symm
  ·exact .inr (a1 _ (qfb i0) p1 q).1
 have b2:f2=gr s1.length f0\/LT f2 (gr s1.length f0)=true:=by
  by_cases q:gr s1.length f0=f2
  ·exact .inl q.symm
  ·exact .inr (a2 _ (qfc i0) p2 q).1
 have:=qfd (n:=s1.length) b1 b2 fun z=>hne (by rw [e0,<-z.1,<-z.2])
 rw [<-e0,hlt] at this
 cases this
theorem ZS:∀ a:List Int,ltZ a a=false
 | []=>rfl
 | x::a=>by
  show (if x=x then ltZ a a else _)=false
  rw [if_pos rfl]
  exact ZS a
theorem ZT (x y:List Int):∀ a:List Int,ltZ (a++x) (a++y)=ltZ x y
 | []=>rfl
 | c::a=>by
  show (if c=c then ltZ (a++x) (a++y) else _)=_
  rw [if_pos rfl]
  exact ZT x y a
theorem Ur (x y:List Int):∀ a b:List Int,a.length=b.length->ltZ a b=true->ltZ (a++x) (b++y)=true
 | [],[],_,h=>by simp [ltZ] at h
 | [],_::_,h,_=>by cases h
 | _::_,[],h,_=>by cases h
 | c::a,d::b,hl,h=>by
  have h:(if c=d then ltZ a b else decide (c < d))=true:=h
  show (if c=d then ltZ (a++x) (b++y) else decide (c < d))=true
  by_cases q:c=d
  ·rw [if_pos q] at h ⊢
   exact Ur x y a b (by simpa using hl) h
  ·rw [if_neg q] at h ⊢
   exact h
theorem Us {a b:Nm} (h:LT2 a b=true):a.1<=b.1/\(a.1=b.1->ltZ a.2 b.2=true):=by
 unfold LT2 at h
 by_cases q:a.1=b.1
 ·rw [if_pos q] at h
  by_cases q2:a.2=b.2
  ·rw [if_pos q2] at h; cases h
  ·rw [if_neg q2] at h
   exact ⟨by omega,fun _=>h⟩
 ·rw [if_neg q] at h
  have:=of_decide_eq_true h
  exact ⟨by omega,fun z=>absurd z q⟩
theorem qdk {a b c d:Nm} (hl:a.2.length=c.2.length) (h1:a=c\/LT2 a c=true) (h2:b=d\/LT2 b d=true) (hne:¬(a=c/\b=d)):LT2 (a.1+b.1,a.2++b.2) (c.1+d.1,c.2++d.2)=true:=by
 have l1:a.1<=c.1:=h1.elim (fun e=>by rw [e]; exact ax _) fun h=>(Us h).1
 have l2:b.1<=d.1:=h2.elim (fun e=>by rw [e]; exact ax _) fun h=>(Us h).1
 unfold LT2
 by_cases q:a.1+b.1=c.1+d.1
 ·rw [if_pos q]
  have hw:ltZ (a.2++b.2) (c.2++d.2)=true:=by
   rcases h1 with h1 | h1
   ·subst h1
    rw [ZT]
    rcases h2 with h2 | h2
    ·exact absurd ⟨rfl,h2⟩ hne
    ·exact (Us h2).2 (by omega)
   ·exact Ur _ _ _ _ hl ((Us h1).2 (by omega))
  rw [if_neg fun z=>by
   have z:a.2++b.2=c.2++d.2:=z
   rw [z,ZS] at hw
   cases hw]
  exact hw
 ·rw [if_neg q]
  exact decide_eq_true (by show a.1+b.1 < c.1+d.1; omega)
theorem qfe {a1 a2 b1 b2:List Int} {n1 n2:Nat} (ha:a1.length=n1) (hb:b1.length=n1):(wr (n1+n2) (a1++a2) (b1++b2)).length=(wr n1 a1 b1).length+(wr n2 a2 b2).length:=by
 unfold wr
 rw [List.range_add,List.filter_append,ai,d6,au]
 congr 1
 ·congr 1
  refine List.filter_congr fun k hk=>?_
  have hk:=aL.mp hk
  rw [qgE (by omega),qgE (by omega)]
 ·congr 1
  refine List.filter_congr fun k hk=>?_
  show decide (nI (a1++a2) (n1+k)≠nI (b1++b2) (n1+k))=_
  rw [<-ha,qgF,ha,<-hb,qgF]
theorem ZU {l:Ln} (h:∀ x∈LS s,jo l x=jo l' x):jA l s r=jA l' s r:=bC fun p hp=>by
 rw [h p.1 (mem_LS.mpr ⟨p,hp,.inl rfl⟩),h p.2 (mem_LS.mpr ⟨p,hp,.inr rfl⟩)]
theorem ZV {m1:List Int} (h1:m1.length=s1.length) (l:Ln):wn (s1++s2) r (m1++m2) l=((wn s1 r m1 l).1+(wn s2 r m2 l).1,(wn s1 r m1 l).2++(wn s2 r m2 l).2):=by
 have e:jA l (s1++s2) r=jA l s1 r++jA l s2 r:=bW
 unfold wn
 rw [e,ai,qfe (vC l s1 r) h1]
theorem Yj {m1:List Int} (dj:∀ x∈LS s1,x∉LS s2) (hr:1<=r) (n1:qE s1.length r m1) (n2:qE s2.length r m2) {f1 f2 f0:Wk} {t1 t2 t0:List Wk}
  (h1:FW s1.length (okB r s1 m1) s1.length [[]]=f1::t1) (h2:FW s2.length (okB r s2 m2) s2.length [[]]=f2::t2) (h0:FW (s1++s2).length (okB r (s1++s2) (m1++m2)) (s1++s2).length [[]]=f0::t0):MD r (s1++s2) (m1++m2) f0 t0=MD r s1 m1 f1 t1++MD r s2 m2 f2 t2:=by
 obtain ⟨⟨l1,_,w1⟩,b1⟩:=ua hr n1 h1
 obtain ⟨⟨l2,_,w2⟩,b2⟩:=ua hr n2 h2
 obtain ⟨⟨l0,_,w0⟩,b0⟩:=ua hr (uv n1 n2) h0
 generalize MD r s1 m1 f1 t1=M1 at *
 generalize MD r s2 m2 f2 t2=M2 at *
 generalize MD r (s1++s2) (m1++m2) f0 t0=M0 at *
 have ej:wn (s1++s2) r (m1++m2) (jn s1 s2 l1 l2)=(f1.length+f2.length,M1++M2):=by
  rw [ZV n1.1]
  have e1:wn s1 r m1 (jn s1 s2 l1 l2)=wn s1 r m1 l1:=by
   unfold wn
   rw [ZU (l':=l1) fun x hx=>qfF hx]
  have e2:wn s2 r m2 (jn s1 s2 l1 l2)=wn s2 r m2 l2:=by
   unfold wn
   rw [ZU (l':=l2) fun x hx=>qfG dj hx]
  rw [e1,e2,w1,w2]
 refine aY fun hne=>?_
 have hlt:=(b0 (jn s1 s2 l1 l2) fun z=>hne (by rw [ej] at z; exact (eY.inj z).2.symm)).2
 rw [ej,<-w0,ZV n1.1] at hlt
 have c1:(f1.length,M1)=wn s1 r m1 l0\/LT2 (f1.length,M1) (wn s1 r m1 l0)=true:=by
  by_cases q:wn s1 r m1 l0=(f1.length,M1)
  ·exact .inl q.symm
  ·exact .inr (b1 l0 q).1
 have c2:(f2.length,M2)=wn s2 r m2 l0\/LT2 (f2.length,M2) (wn s2 r m2 l0)=true:=by
  by_cases q:wn s2 r m2 l0=(f2.length,M2)
  ·exact .inl q.symm
  ·exact .inr (b2 l0 q).1
 have hl:M1.length=(wn s1 r m1 l0).2.length:=by
  have:M1=jA l1 s1 r:=(congrArg Prod.snd w1).symm
  rw [this]
  show _=(jA l0 s1 r).length
  rw [vC,vC]
 have:=qdk hl c1 c2 fun z=>hne (by
  have e:=w0
  rw [ZV n1.1,<-z.1,<-z.2] at e
  exact (eY.inj e).2.symm)
 have this:LT2 (f1.length+f2.length,M1++M2) ((wn s1 r m1 l0).1+(wn s2 r m2 l0).1,(wn s1 r m1 l0).2++(wn s2 r m2 l0).2)=true:=this
 rw [hlt] at this
 cases this
def WIn (ls:List Str) (w:Str):Prop:=qdp w/\∀ c∈w.cps.toList,(⟨#[c]⟩:Str)∈ls
abbrev hfB:Sl->Out (Fl×Sl):=(ji (kb 7 (qt [.vl,.sl 1,.vl,.vl] QL (qd (qe 0) (vd (qd (qe 2) (qd (dC (.int 4)) qH))))))
  (sIf (je (d2 xT (qe 7) (qe 5))) (wC (KZ 5 Wq (qe 7))) ka))
theorem gi (ns:List Int) (a b:D) (hls:qdq ls):∀ (ds:List D) (town:List D) (ws:List Str) (k u:Option D),town.length+8 * ds.length < 900->ws.length+ds.length<=100->ws.Nodup->(∀ w∈ws,WIn ls w) ->
  ∃ (town':List D) (ws':List Str) (k' u':Option D),town'.length<=town.length+8 * ds.length/\ws'.length<=ws.length+ds.length/\ws.length<=ws'.length/\(ds≠[]->1<=ws'.length)/\ws'.Nodup/\(∀ w∈ws',WIn ls w) /\
   wz (gNm 6) hfB ds [some (scr ns),some (.lst town),some (.lst (ls.map D.str)),some a,some b,some (.lst (ws.map D.str)),k,u]=.ok (.nx,[some (scr ns),some (.lst town'),some (.lst (ls.map D.str)),some a,some b,some (.lst (ws'.map D.str)),k',u'])
 | [],town,ws,k,u,_,_,hn,hw=>⟨town,ws,k,u,by simp,by simp,by simp,by simp,hn,hw,rfl⟩
 | d::ds,town,ws,k,u,ht,hl,hn,hw=>by
  rw [ap] at ht hl
  obtain ⟨w,t1,hW,ht1,hg⟩:=qcR ns town hls (by omega)
  have hb:=big
  have hz:ws.length < sizeLine:=by omega
  by_cases hm:w∈ws
  ·obtain ⟨town',ws',k',u',a1,a2,a3,a4,a5,a6,a7⟩:=gi ns a b hls ds t1 ws (some d) (some (.str w)) (by omega) (by omega) hn hw
   refine ⟨town',ws',k',u',by rw [ap]; omega,by rw [ap]; omega,a3,fun _=>?_,a5,a6,?_⟩
   ·have:0 < ws.length:=cm hm
    omega
   ·rw [<-a7]
    simp [wz,hfB,qy,jl,hg,xT,UC,inD,yJ,hm]
  ·obtain ⟨town',ws',k',u',a1,a2,a3,a4,a5,a6,a7⟩:=gi ns a b hls ds t1 (ws++[w]) (some d) (some (.str w)) (by omega) (by rw [ai]; simp; omega) (cg.mpr ⟨hn,by simp,fun a ha b hb=>by
    rw [am.mp hb]
    exact fun z=>hm (z ▸ ha)⟩) (fun x hx=>by
    rcases ak.mp hx with hx | hx
    ·exact hw x hx
    ·rw [am.mp hx]
     exact hW)
   rw [ai] at a2 a3
   simp at a2 a3
   refine ⟨town',ws',k',u',by rw [ap]; omega,by rw [ap]; omega,by omega,fun _=>by omega,a5,a6,?_⟩
   rw [<-a7]
   simp [wz,hfB,qy,jl,hg,xT,UC,inD,yJ,hm,yU,Wq,hz]
theorem ZW (ns:List Int) (hr:1<=r):∀ (ds town:List D) (x:Option D),town.length+ds.length<=900 ->
  ∃ (is:List Int) (town':List D) (x':Option D),is.length=ds.length/\town'.length=town.length+ds.length/\(∀ i∈is,0<=i/\i < r)/\jt (gNm 0) ftT (qt [.vl,.sl 2,.vl] vc (qd (qe 1) (vd (qd (qe 3) qH)))) ds [x,some (scr ns),some (.lst town),some (.int r)]=.ok (is.map D.int,[x',some (scr ns),some (.lst town'),some (.int r)])
 | [],town,x,_=>⟨[],town,x,rfl,rfl,by simp,rfl⟩
 | d::ds,town,x,h=>by
  rw [ap] at h
  obtain ⟨v,v0,v1,g⟩:=uS ns town (many:=r) (by omega) (by omega)
  obtain ⟨is,town',x',h1,h2,h3,e⟩:=ZW ns hr ds (town++[.int 0]) (some d) (by rw [ai]; simp; omega)
  refine ⟨v::is,town',x',by simp [h1],by rw [h2,ai,ap]; simp; omega,fun i hi=>?_,?_⟩
  ·rcases ac.mp hi with rfl | hi
   ·exact ⟨v0,v1⟩
   ·exact h3 i hi
  ·simp [jt,yS,qy,jl,g,e,yU]
theorem qbF (ns:List Int) (town:List D) (ht:town.length < 300) (hls:qdq ls) (k:D) (hr:1<=r):∃ ws m town',(jE ws/\ws.length<=3/\(∀ w∈ws,WIn ls w)/\qE ws.length r m)/\town'.length<=town.length+60 /\
  QN [scr ns,.lst town,.lst (ls.map D.str),k,.int r]=.ok (.tup [Wd ws,nD m],[.non,.lst town',.non,.non,.non]):=by
 obtain ⟨v,v0,v1,g⟩:=uS ns town (many:=3) (by omega) (by omega)
 have hlen:(xQ 0 (1+v).toNat).length=(1+v).toNat:=by simp [xQ]
 obtain ⟨t1,ws,k',u',a1,a2,a3,a4,a5,a6,a7⟩:=gi ns k (.int r) hls (xQ 0 (1+v).toNat) (town++[.int 0]) [] none none (by rw [hlen,ai]; simp; omega) (by rw [hlen]; simp; omega) dI (by simp)
 have hne:xQ 0 (1+v).toNat≠[]:=fun z=>by
  rw [z] at hlen
  simp at hlen
  omega
 have hl3:ws.length<=3:=by
  rw [hlen] at a2
  simp at a2
  omega
 rw [hlen,ai] at a1
 simp at a1
 obtain ⟨is,t2,x',c1,c2,c3,c4⟩:=ZW ns hr (ws.map D.str) t1 none (by rw [au]; omega)
 rw [au] at c1 c2
 refine ⟨ws,is,t2,⟨⟨a4 hne,by omega,a5,fun w hw=>(a6 w hw).1⟩,hl3,a6,c1,c3⟩,by omega,?_⟩
 refine runD_ap.trans ?_
 have hz:2<=sizeLine:=jz (by omega)
 have d1':=yK (own:=[1]) (cap:=[0,1,4]) (nt:=1) (fi:=km (qe 5)) (g:=gNm 0) (ft:=ftT) (fe:=qt [.vl,.sl 2,.vl] vc (qd (qe 1) (vd (qd (qe 3) qH)))) (ρ:=[some (scr ns),some (.lst t1),some (.lst (ls.map D.str)),some k,some (.int r),some (.lst (ws.map D.str)),k',u']) (ρ1:=[some (scr ns),some (.lst t1),some (.lst (ls.map D.str)),some k,some (.int r),some (.lst (ws.map D.str)),k',u']) (ds:=ws.map D.str) (by simp [jL]) (by rw [au]; exact jz (by omega)) c4
 have hout:jx [1] [x',some (scr ns),some (.lst t2),some (.int r)] 1 [0,1,4] [some (scr ns),some (.lst t1),some (.lst (ls.map D.str)),some k,some (.int r),some (.lst (ws.map D.str)),k',u']=[some (scr ns),some (.lst t2),some (.lst (ls.map D.str)),some k,some (.int r),some (.lst (ws.map D.str)),k',u']:=rfl
 rw [hout] at d1'
 unfold VB
 rw [show qw QM [scr ns,.lst town,.lst (ls.map D.str),k,.int r]=[some (scr ns),some (.lst town),some (.lst (ls.map D.str)),some k,some (.int r),none,none,none] from rfl]
 refine (qB (ρ1:=[some (scr ns),some (.lst town),some (.lst (ls.map D.str)),some k,some (.int r),some (.lst []),none,none]) (by simp)).trans ?_
 refine (qB (ρ1:=[some (scr ns),some (.lst t1),some (.lst (ls.map D.str)),some k,some (.int r),some (.lst (ws.map D.str)),k',u']) (by
  rw [vG,iR0 (k:=1+v) (ρ1:=[some (scr ns),some (.lst (town++[.int 0])),some (.lst (ls.map D.str)),some k,some (.int r),some (.lst []),none,none]) (by omega) (by omega) (by simp [qy,jl,g,jJ]),vM]
  exact a7)).trans ?_
 generalize hM:D.lst (is.map D.int)=M at d1'
 generalize hN:D.lst (ws.map D.str)=N at d1' ⊢
 have t1':yo N=.ok (Wd ws):=by rw [<-hN]; rfl
 have t2':yo M=.ok (nD is):=by rw [<-hM]; rfl
 simp [d1',t1',t2',hz,qv]
theorem Jb (hw:WIn ls w) (p:Int):Yc w p∈ls:=by
 have hn:w.cps.toList.length=w.length:=by simp [xn]
 have hl:wY w.length p < w.cps.toList.length:=by
  have:=hw.1.1
  rw [hn]
  unfold wY
  omega
 have:=hw.2 _ (bq hl)
 unfold Yc
 rw [af hl]
 exact this
theorem qff (hw:∀ w∈ws,WIn ls w) (p q:Int) (h:x∈LS (qA ws p q)):x∈ls:=by
 obtain ⟨e,he,h⟩:=mem_LS.mp h
 obtain ⟨w,hm,rfl⟩:=aj.mp he
 rcases h with rfl | rfl
 ·exact Jb (hw w hm) p
 ·exact Jb (hw w hm) q
theorem qaR {l1 l2 w1 w2:List Str} (hd:∀ x∈l1,x∉l2) (h1:jE w1) (h2:jE w2) (z1:w1.length<=3) (z2:w2.length<=3) (i1:∀ w∈w1,WIn l1 w) (i2:∀ w∈w2,WIn l2 w):jE (w1++w2):=by
 refine ⟨by rw [ai]; have:=h1.1; omega,by rw [ai]; omega,cg.mpr ⟨h1.2.2.1,h2.2.2.1,fun a ha b hb z=>?_⟩,fun w hw=>(ak.mp hw).elim (h1.2.2.2 w) (h2.2.2.2 w)⟩
 subst z
 exact hd _ (Jb (i1 a ha) 0) (Jb (i2 a hb) 0)
theorem lab:qdq ["a", "b"]:=⟨by simp,fun x hx=>by
 simp only [ac,aJ,or_false] at hx
 rcases hx with rfl | rfl
 ·exact ⟨97,by unfold az; decide,by decide +kernel⟩
 ·exact ⟨98,by unfold az; decide,by decide +kernel⟩⟩
theorem qhG:qdq ["x", "y", "z"]:=⟨by simp,fun x hx=>by
 simp only [ac,aJ,or_false] at hx
 rcases hx with rfl | rfl | rfl
 ·exact ⟨120,by unfold az; decide,by decide +kernel⟩
 ·exact ⟨121,by unfold az; decide,by decide +kernel⟩
 ·exact ⟨122,by unfold az; decide,by decide +kernel⟩⟩
theorem ldj:∀ x∈(["a", "b"]:List Str),x∉(["x", "y", "z"]:List Str):=by decide +kernel
theorem qgG (g:Wk):gD g=nD (g.map fun (k:Nat)=>(k:Int)):=by
 simp [inL]
theorem qgH (a:List Int):neD (nD a) (nD a)=.ok (.bl false):=by
 have:=Uo 7 a a
 simp [neD,this]
theorem qgI (a:List Int):eqD (nD a) (nD a)=.ok (.bl true):=by
 have:=Uo 7 a a
 simp [eqD,this]
theorem Jc (a b:List D) (h:a.length+b.length<=100):jJ (.tup a) (.tup b)=.ok (.tup (a++b)):=by
 have:a.length+b.length<=sizeLine:=jz (by omega)
 simp [jJ,this]
theorem qfg (ns0:List Int):qaB [scr ns0]=.ok (.bl true,[.non]):=by
 refine runD_ap.trans ?_
 obtain ⟨v,v0,v1,g1⟩:=uS ns0 [] (many:=8) (by omega) (by simp)
 obtain ⟨p,q,t2,hlk,ht2,g2⟩:=qcS ns0 ([]++[.int 0]) (by simp)
 have hr:(1:Int)<=1+v:=by omega
 obtain ⟨w1,m1,t3,⟨hw1,z1,i1,n1⟩,ht3,g3⟩:=qbF ns0 t2 (by simp at ht2; omega) lab (Ld p q) hr
 obtain ⟨w2,m2,t4,⟨hw2,z2,i2,n2⟩,ht4,g4⟩:=qbF ns0 t3 (by simp at ht2; omega) qhG (Ld p q) hr
 generalize hR:1+v=r at hr n1 n2 g3 g4
 have h18:r<=18:=by omega
 have h99:r<=99:=by omega
 have hw0:=qaR ldj hw1 hw2 z1 z2 i1 i2
 have es:qA (w1++w2) p q=qA w1 p q++qA w2 p q:=bW
 have l1:(qA w1 p q).length=w1.length:=by simp [qA]
 have l2:(qA w2 p q).length=w2.length:=by simp [qA]
 have dj:∀ x∈LS (qA w1 p q),x∉LS (qA w2 p q):=fun x hx hx2=>ldj x (qff i1 p q hx) (qff i2 p q hx2)
 have n0:qE (w1++w2).length r (m1++m2):=⟨by rw [ai,ai,n1.1,n2.1],fun i hi=>(ak.mp hi).elim (n1.2 i) (n2.2 i)⟩
 have k1:qE (qA w1 p q).length r m1:=by rw [l1]; exact n1
 have k2:qE (qA w2 p q).length r m2:=by rw [l2]; exact n2
 have k0:=uv k1 k2
 obtain ⟨W1,S1⟩:=qc2 hw1 p q
 obtain ⟨W2,S2⟩:=qc2 hw2 p q
 obtain ⟨W0,S0⟩:=qc2 hw0 p q
 have c1:=uT hw1 hlk hr h99 n1 S1
 have c2:=uT hw2 hlk hr h99 n2 S2
 have c0:=uT hw0 hlk hr h99 n0 S0
 have hm1:HM W1 (qA w1 p q) r m1=((slv r (qA w1 p q) m1).length:Int):=(Zw S1 hr k1).1
 have hm2:HM W2 (qA w2 p q) r m2=((slv r (qA w2 p q) m2).length:Int):=(Zw S2 hr k2).1
 have hm0:HM W0 (qA (w1++w2) p q) r (m1++m2)=((slv r (qA (w1++w2) p q) (m1++m2)).length:Int):=(Zw S0 hr (by rw [es]; exact k0)).1
 have hmul:HM W0 (qA (w1++w2) p q) r (m1++m2)=HM W1 (qA w1 p q) r m1 * HM W2 (qA w2 p q) r m2:=by
  rw [hm0,hm1,hm2,es,ZN dj hr k1 k2,Int.natCast_mul]
 have hbd:HM W1 (qA w1 p q) r m1 < 2 ^ 64/\0<=HM W1 (qA w1 p q) r m1:=by
  rw [hm1]
  have h1:(slv r (qA w1 p q) m1).length<=(EV0 r (LS (qA w1 p q))).length:=b6 _ _
  have h2:(EV0 r (LS (qA w1 p q))).length=r.toNat ^ (LS (qA w1 p q)).length:=by
   have:∀ (L:List Str) (rows:List Ln),(EV r rows L).length=rows.length * r.toNat ^ L.length:=fun L=>by
    induction L with
    | nil=>intro rows; simp [EV]
    | cons x L ih=>
     intro rows
     show (EV r (evS r x rows) L).length=_
     rw [ih,show (evS r x rows).length=rows.length * r.toNat from by
      unfold evS
      exact (Uc (aF r.toNat) (fun l (j:Nat)=>l++[(x,(j:Int))]) rows).trans (by rw [bD]),ap,Nat.pow_succ',Nat.mul_assoc]
   have h:=this (LS (qA w1 p q)) [[]]
   simpa using h
  have h3:(LS (qA w1 p q)).length<=12:=qbh hw1 p q
  have h4:r.toNat ^ (LS (qA w1 p q)).length<=18 ^ 12:=bc (Nat.pow_le_pow_left (by omega) _) (dZ (by omega) h3)
  have h5:(18:Nat) ^ 12 < 2 ^ 64:=by decide
  have h6:(slv r (qA w1 p q) m1).length < 2 ^ 64:=by omega
  exact ⟨by omega,by omega⟩
 obtain ⟨f1,u1,a1,o1⟩:=uV hw1 hlk hr h99 n1 S1
 obtain ⟨f2,u2,a2,o2⟩:=uV hw2 hlk hr h99 n2 S2
 obtain ⟨f0,u0,a0,o0⟩:=uV hw0 hlk hr h99 n0 S0
 have e0:f0=f1++sh w1.length f2:=by
  have:=ZR (f0:=f0) (t0:=u0) dj hr k1 k2 (by rw [l1]; exact a1) (by rw [l2]; exact a2) (by
   rw [ai,l1,l2,<-es]
   rw [ai] at a0
   exact a0)
  rw [l1] at this
  exact this
 have b1:=VR (yM a1).1
 have b2:=VR (yM a2).1
 obtain ⟨j1,x1,y1,p1⟩:=gf hw1 hlk hr h18 n1 S1
 obtain ⟨j2,x2,y2,p2⟩:=gf hw2 hlk hr h18 n2 S2
 obtain ⟨j0,x0,y0,p0⟩:=gf hw0 hlk hr h18 n0 S0
 have me:MD r (qA (w1++w2) p q) (m1++m2) j0 x0=MD r (qA w1 p q) m1 j1 x1++MD r (qA w2 p q) m2 j2 x2:=by
  rw [es] at y0 ⊢
  exact Yj dj hr k1 k2 y1 y2 y0
 have q1:(MD r (qA w1 p q) m1 j1 x1).length<=6:=by
  obtain ⟨⟨l,_,e⟩,_⟩:=ua hr k1 y1
  have:MD r (qA w1 p q) m1 j1 x1=jA l (qA w1 p q) r:=(congrArg Prod.snd e).symm
  rw [this,vC]
  omega
 have q2:(MD r (qA w2 p q) m2 j2 x2).length<=6:=by
  obtain ⟨⟨l,_,e⟩,_⟩:=ua hr k2 y2
  have:MD r (qA w2 p q) m2 j2 x2=jA l (qA w2 p q) r:=(congrArg Prod.snd e).symm
  rw [this,vC]
  omega
 rw [me] at p0
 rw [hmul] at c0
 rw [e0] at o0
 generalize MD r (qA w1 p q) m1 j1 x1=M1 at *
 generalize MD r (qA w2 p q) m2 j2 x2=M2 at *
 generalize HM W1 (qA w1 p q) r m1=H1 at *
 generalize HM W2 (qA w2 p q) r m2=H2 at *
 have sW:jJ (Wd w1) (Wd w2)=.ok (Wd (w1++w2)):=by
  rw [Jc _ _ (by rw [au,au]; omega),<-bW]
 have sM:jJ (nD m1) (nD m2)=.ok (nD (m1++m2)):=by
  rw [Jc _ _ (by rw [au,au,n1.1,n2.1]; omega),<-bW]
 have sD':jJ (nD M1) (nD M2)=.ok (nD (M1++M2)):=by
  rw [Jc _ _ (by rw [au,au]; omega),<-bW]
 have sG:jJ (gD f1) (gD (sh w1.length f2))=.ok (gD (f1++sh w1.length f2)):=by
  rw [Jc _ _ (by simp [inL,sh]; omega)]
  simp [inL]
 have hG:neD (gD (f1++sh w1.length f2)) (gD (f1++sh w1.length f2))=.ok (.bl false):=by
  rw [qgG]
  exact qgH _
 have hE:=qgI (M1++M2)
 have hlen:jF (Wd w1)=.ok (.int w1.length):=by simp [jF]
 have hcm:CMul H1 H2:=.inl ⟨by omega,hbd.1⟩
 have hmD:Yl (.int H1) (.int H2)=.ok (.int (H1 * H2)):=by
  simp only [Yl,uy]
  rw [if_pos hcm]
 have e8:=QO (own:=[1]) (cap:=[6]) (fi:=km (qt [.vl,.vl,.vl,.vl] kg (qd (qe 8) (qd (qe 3) (qd (qe 2) (qd (qe 9) qH)))))) (ρ:=[some (scr ns0),some (.lst t4),some (.int r),some (Ld p q),some (.int (H1 * H2)),none,some (Wd w1),some (nD m1),some (Wd w2),some (nD m2)]) (ρ1:=[some (scr ns0),some (.lst t4),some (.int r),some (Ld p q),some (.int (H1 * H2)),none,some (Wd w1),some (nD m1),some (Wd w2),some (nD m2)]) (ds:=inL f2) (fe:=d2 jJ (d1 jF (qe 1)) (qe 0)) (fun d=>match d with | .int k=>.int (w1.length+k) | d=>d) (by simp) (by
   generalize Wd w2=Z2 at o2 ⊢
   generalize nD m2=Y2 at o2 ⊢
   simp [qy,jl,o2,jL]) (by simp [inL]; exact jz (by omega)) (fun d hd=>by
   obtain ⟨k,hk,rfl⟩:=aj.mp hd
   generalize Wd w1=Z1 at hlen ⊢
   simp [hlen,jJ])
 have f8:(inL f2).map (fun d=>match d with | .int k=>.int (w1.length+k) | d=>d)=inL (sh w1.length f2):=by
  unfold inL sh
  rw [bo,bo]
  refine bC fun k _=>?_
  show D.int ((w1.length:Int)+(k:Int))=D.int ((w1.length+k:Nat):Int)
  rw [Int.natCast_add]
 rw [f8] at e8
 have hz2:2<=sizeLine:=jz (by omega)
 have hz3:3<=sizeLine:=jz (by omega)
 unfold qcO
 rw [show qw qaA [scr ns0]=[some (scr ns0),none,none,none,none,none,none,none,none,none] from rfl]
 refine (qB (ρ1:=[some (scr ns0),some (.lst []),none,none,none,none,none,none,none,none]) (by simp)).trans ?_
 refine (qB (ρ1:=[some (scr ns0),some (.lst ([]++[.int 0])),some (.int r),none,none,none,none,none,none,none]) (by simp [qy,jl,g1,jJ,hR])).trans ?_
 refine (qB (ρ1:=[some (scr ns0),some (.lst t2),some (.int r),some (Ld p q),none,none,none,none,none,none]) (by simp at g2; simp [qy,jl,g2])).trans ?_
 simp only [aC,ck] at g3 g4
 refine (qB (ρ1:=[some (scr ns0),some (.lst t3),some (.int r),some (Ld p q),none,none,some (Wd w1),some (nD m1),none,none]) (by
  generalize Wd w1=Z1 at g3 ⊢
  generalize nD m1=Y1 at g3 ⊢
  simp [qy,jl,hz2,g3,kz,qJ,ky])).trans ?_
 refine (qB (ρ1:=[some (scr ns0),some (.lst t4),some (.int r),some (Ld p q),none,none,some (Wd w1),some (nD m1),some (Wd w2),some (nD m2)]) (by
  generalize Wd w2=Z2 at g4 ⊢
  generalize nD m2=Y2 at g4 ⊢
  simp [qy,jl,hz3,g4,kz,qJ,ky])).trans ?_
 have T:∀ x1 x2:Option D,d1 yo (ju [1] 1 [6] (km (qt [.vl,.vl,.vl,.vl] kg (qd (qe 8) (qd (qe 3) (qd (qe 2) (qd (qe 9) qH)))))) (gNm 0) ftT (d2 jJ (d1 jF (qe 1)) (qe 0))) [some (scr ns0),some (.lst t4),some (.int r),some (Ld p q),some (.int (H1 * H2)),none,some (Wd w1),some (nD m1),some (Wd w2),some (nD m2)]=.ok (gD (sh w1.length f2),[some (scr ns0),some (.lst t4),some (.int r),some (Ld p q),some (.int (H1 * H2)),none,some (Wd w1),some (nD m1),some (Wd w2),some (nD m2)]):=fun _ _=>by
  rw [GZ,e8]
  rfl
 have T:=T none none
 generalize gD (f1++sh w1.length f2)=G0 at *
 generalize gD (sh w1.length f2)=G2 at *
 generalize gD f1=G1 at *
 generalize Wd (w1++w2)=Z0 at *
 generalize nD (m1++m2)=Y0 at *
 generalize Wd w1=Z1 at *
 generalize Wd w2=Z2 at *
 generalize nD m1=Y1 at *
 generalize nD m2=Y2 at *
 generalize nD (M1++M2)=P0 at *
 generalize nD M1=P1 at *
 generalize nD M2=P2 at *
 refine (qB (ρ1:=[some (scr ns0),some (.lst t4),some (.int r),some (Ld p q),some (.int (H1 * H2)),none,some Z1,some Y1,some Z2,some Y2]) (by simp [qy,jl,c1,c2,hmD])).trans ?_
 refine (qB (ρ1:=[some (scr ns0),some (.lst t4),some (.int r),some (Ld p q),some (.int (H1 * H2)),none,some Z1,some Y1,some Z2,some Y2]) (by simp [qy,jl,sW,sM,c0,neD,eqN,eqS])).trans ?_
 refine (qB (ρ1:=[some (scr ns0),some (.lst t4),some (.int r),some (Ld p q),some (.int (H1 * H2)),some G0,some Z1,some Y1,some Z2,some Y2]) (by simp [-GZ,qy,jl,o1,T,sG])).trans ?_
 refine (qB (ρ1:=[some (scr ns0),some (.lst t4),some (.int r),some (Ld p q),some (.int (H1 * H2)),some G0,some Z1,some Y1,some Z2,some Y2]) (by simp [qy,jl,sW,sM,o0,hG])).trans ?_
 simp [qy,jl,sW,sM,p0,p1,p2,sD',hE,qv]
end Kx
namespace Kx
open PySem PySem.Spec PyProof.Rows L2 L2.D2
variable {us:List Value} {P:List Value->Prop}
theorem qhe (hl:us.length=0) (h:P []):P us:=List.length_eq_zero_iff.mp hl ▸ h
theorem qfh {n:Nat} (hl:us.length=n+1):∃ a l,us=a::l/\l.length=n:=by
 cases us with
 | nil=>cases hl
 | cons a l=>exact ⟨a,l,rfl,Nat.succ.inj hl⟩
theorem qhf (hl:us.length=1) (h:∀ a,P [a]):P us:=by
 obtain ⟨a,l,rfl,e⟩:=qfh hl
 exact qhe (P:=fun l=>P (a::l)) e (h a)
theorem qhg (hl:us.length=2) (h:∀ a b,P [a,b]):P us:=by
 obtain ⟨a,l,rfl,e⟩:=qfh hl
 exact qhf (P:=fun l=>P (a::l)) e (h a)
theorem qhh (hl:us.length=3) (h:∀ a b c,P [a,b,c]):P us:=by
 obtain ⟨a,l,rfl,e⟩:=qfh hl
 exact qhg (P:=fun l=>P (a::l)) e (h a)
theorem qhi (hl:us.length=4) (h:∀ a b c d,P [a,b,c,d]):P us:=by
 obtain ⟨a,l,rfl,e⟩:=qfh hl
 exact qhh (P:=fun l=>P (a::l)) e (h a)
theorem qhH (hl:us.length=5) (h:∀ a b c d e,P [a,b,c,d,e]):P us:=by
 obtain ⟨a,l,rfl,e⟩:=qfh hl
 exact qhi (P:=fun l=>P (a::l)) e (h a)
variable {K:Frag} {h:Heap} {mg:Str->Option Value}
theorem qC (X:K.In h) (G:h.Ns mainGlobals mg) {x:Str} {st:Stmt} {ps:List Str} {f:Addr} {oc:Value} {od an:Option Addr} {osl:Array (Option Value)} {kV doc pm cdv ct:Value}
  (a:nsIn K mainGlobals x=some (some (.ref f))) (l:K.lookup f=some ⟨oc,od,.func (cA x x (uH st) (vV st) (qf st) .none kV doc pm an cdv ct),osl⟩) (c:codeIn K cdv x=true) (k:keepIn K (.ref f)=true)
  (hb:∀ (kV doc pm:Value) (an:Option Addr) (cdv ct:Value) (us:List Value),us.length=ps.length->bindArgs (cA x x (uH st) (vV st) (qf st) .none kV doc pm an cdv ct) ⟨us,[]⟩=pure (ps.zip us):=by
   intro _ _ _ _ _ _ us hl
   first | refine qhe (P:=fun us=>bindArgs _ ⟨us,[]⟩=pure (fm _ us)) hl ?_ | refine qhf (P:=fun us=>bindArgs _ ⟨us,[]⟩=pure (fm _ us)) hl ?_ | refine qhg (P:=fun us=>bindArgs _ ⟨us,[]⟩=pure (fm _ us)) hl ?_ | refine qhh (P:=fun us=>bindArgs _ ⟨us,[]⟩=pure (fm _ us)) hl ?_ | refine qhi (P:=fun us=>bindArgs _ ⟨us,[]⟩=pure (fm _ us)) hl ?_ | refine qhH (P:=fun us=>bindArgs _ ⟨us,[]⟩=pure (fm _ us)) hl ?_
   all_goals intros; rfl):jm K mg x st ps:=
 ⟨f,_,YB l c k,mg_of X G a,(YB l c k).binds hb⟩
theorem ZX {l:List Str} {f:Str->Addr} (nd:(l.map f).Nodup) {x y:Str} (hx:x∈l) (hy:y∈l) (e:f x=f y):x=y:=by
 obtain ⟨i,hi,rfl⟩:=dY.mp hx
 obtain ⟨j,hj,rfl⟩:=dY.mp hy
 have q:=(eS (h₀:=by simpa using hi) (h₁:=by simpa using hj) nd).mp (show (l.map f)[i]'(by simpa using hi)=(l.map f)[j]'(by simpa using hj) by simpa using e)
 subst q
 rfl
noncomputable def caT (T:List (Str×Addr)) (x:Str):Addr:=(T.lookup x).getD 0
noncomputable def qaS (K:Frag) (Cs:List Addr) (W:Addr):Bool:=decide Cs.Nodup&&Cs.all fun c=>xcB K c&&decide (dH K (.ref c) (.ref W)=some true)&&decide (b8 K (.ref c) (.type "ValueError")=some true)&&df K c bmV "ValueError.__new__"&&Cs.all fun d=>decide (b8 K (.ref c) (.ref d)=some (decide (c=d)))
theorem qaT {Cs:List Addr} {W:Addr} (h:qaS K Cs W=true):Cs.Nodup/\∀ c∈Cs,xcB K c=true/\dH K (.ref c) (.ref W)=some true/\b8 K (.ref c) (.type "ValueError")=some true/\df K c bmV "ValueError.__new__"=true/\∀ d∈Cs,b8 K (.ref c) (.ref d)=some (decide (c=d)):=by
 unfold qaS at h
 rw [aO,bp] at h
 refine ⟨of_decide_eq_true h.1,fun c hc=>?_⟩
 have q:=h.2 c hc
 simp only [aO,decide_eq_true_eq,bp] at q
 exact ⟨q.1.1.1.1,q.1.1.1.2,q.1.1.2,q.1.2,q.2⟩
def qhj (ca:Str->Addr):Prop:=∀ x∈CS,∀ y∈CS,ca x=ca y->x=y
theorem qfi {c:Str} (h:c∈CS):c = "NoWords"\/c = "NoLook"\/c = "NoNumbers"\/c = "NoRoom":=by simpa [CS] using h
theorem qgJ (X:K.In h) (G:h.Ns mainGlobals mg) {CW C0 C1 C2 C3:Addr}  {t_LEAST_PLACE t_MOST_LETTERS t_MOST_PLACE t_MOST_ROOM t_MOST_WORDS:Tok}
    (aW:nsIn K mainGlobals "WordError"=some (some (.ref CW)))
    (a0:nsIn K mainGlobals "NoWords"=some (some (.ref C0)))
    (a1:nsIn K mainGlobals "NoLook"=some (some (.ref C1)))
    (a2:nsIn K mainGlobals "NoNumbers"=some (some (.ref C2)))
    (a3:nsIn K mainGlobals "NoRoom"=some (some (.ref C3)))
    (z_all:nsIn K mainGlobals "all"=some none)
    (z_bool:nsIn K mainGlobals "bool"=some none)
    (z_enumerate:nsIn K mainGlobals "enumerate"=some none)
    (z_int:nsIn K mainGlobals "int"=some none)
    (z_isinstance:nsIn K mainGlobals "isinstance"=some none)
    (z_len:nsIn K mainGlobals "len"=some none)
    (z_list:nsIn K mainGlobals "list"=some none)
    (z_max:nsIn K mainGlobals "max"=some none)
    (z_min:nsIn K mainGlobals "min"=some none)
    (z_range:nsIn K mainGlobals "range"=some none)
    (z_reversed:nsIn K mainGlobals "reversed"=some none)
    (z_set:nsIn K mainGlobals "set"=some none)
    (z_sorted:nsIn K mainGlobals "sorted"=some none)
    (z_str:nsIn K mainGlobals "str"=some none)
    (z_tuple:nsIn K mainGlobals "tuple"=some none)
    (c_LEAST_PLACE:nsIn K mainGlobals "LEAST_PLACE"=some (some (.int (-3) t_LEAST_PLACE)))
    (c_MOST_LETTERS:nsIn K mainGlobals "MOST_LETTERS"=some (some (.int 6 t_MOST_LETTERS)))
    (c_MOST_PLACE:nsIn K mainGlobals "MOST_PLACE"=some (some (.int 2 t_MOST_PLACE)))
    (c_MOST_ROOM:nsIn K mainGlobals "MOST_ROOM"=some (some (.int 99 t_MOST_ROOM)))
    (c_MOST_WORDS:nsIn K mainGlobals "MOST_WORDS"=some (some (.int 6 t_MOST_WORDS)))
    (ex:qaS K [C0,C1,C2,C3] CW=true)
     :
    Zt K mg (fun x=>.ref (caT [("WordError",CW),("NoWords",C0),("NoLook",C1),("NoNumbers",C2),("NoRoom",C3)] x)) (caT [("WordError",CW),("NoWords",C0),("NoLook",C1),("NoNumbers",C2),("NoRoom",C3)])/\qhj (caT [("WordError",CW),("NoWords",C0),("NoLook",C1),("NoNumbers",C2),("NoRoom",C3)]):=by
  obtain ⟨nd,al⟩:=qaT ex
  generalize hT:([("WordError",CW),("NoWords",C0),("NoLook",C1),("NoNumbers",C2),("NoRoom",C3)]:List (Str×Addr))=T
  have eW:caT T "WordError"=CW:=by subst hT; kernel_rfl
  have e0:caT T "NoWords"=C0:=by subst hT; kernel_rfl
  have e1:caT T "NoLook"=C1:=by subst hT; kernel_rfl
  have e2:caT T "NoNumbers"=C2:=by subst hT; kernel_rfl
  have e3:caT T "NoRoom"=C3:=by subst hT; kernel_rfl
  have hm:CS.map (caT T)=[C0,C1,C2,C3]:=by
    unfold CS
    simp only [aC,ck,e0,e1,e2,e3]
  have hin:∀ c∈CS,caT T c∈[C0,C1,C2,C3]:=fun c hc=>hm ▸ aj.mpr ⟨c,hc,rfl⟩
  refine ⟨⟨⟨fun c hc=>rfl,fun c hc=>?_,fun c hc=>(al _ (hin c hc)).1,fun c hc d hd=>(al _ (hin c hc)).2.2.2.2 _ (hin d hd),fun c hc=>(al _ (hin c hc)).2.2.1⟩,fun c hc=>?_,fun c hc=>(al _ (hin c hc)).2.2.2.1,fun x hx=>absurd hx (by simp [FS]),mg_none_of X G z_all,mg_none_of X G z_bool,mg_none_of X G z_enumerate,mg_none_of X G z_int,mg_none_of X G z_isinstance,mg_none_of X G z_len,mg_none_of X G z_list,mg_none_of X G z_max,mg_none_of X G z_min,mg_none_of X G z_range,mg_none_of X G z_reversed,mg_none_of X G z_set,mg_none_of X G z_sorted,mg_none_of X G z_str,mg_none_of X G z_tuple,⟨_,mg_of X G c_LEAST_PLACE⟩,⟨_,mg_of X G c_MOST_LETTERS⟩,⟨_,mg_of X G c_MOST_PLACE⟩,⟨_,mg_of X G c_MOST_ROOM⟩,⟨_,mg_of X G c_MOST_WORDS⟩⟩,fun x hx y hy e=>?_⟩
  · show dH K (.ref (caT T c)) (.ref (caT T "WordError"))=some true
    rw [eW]
    exact (al _ (hin c hc)).2.1
  · rcases qfi hc with rfl | rfl | rfl | rfl
    · rw [e0]; exact mg_of X G a0
    · rw [e1]; exact mg_of X G a1
    · rw [e2]; exact mg_of X G a2
    · rw [e3]; exact mg_of X G a3
  ·
    rw [<-hm] at nd
    exact ZX nd hx hy e
structure Tx (K:Frag) (mg:Str->Option Value) (ca:Str->Addr):Prop where
 x_is_letter:jm K mg "is_letter" wb ["thing"]
 x_is_word:jm K mg "is_word" vN ["thing"]
 x_is_words:jm K mg "is_words" kM ["thing"]
 x_check_words:jm K mg "check_words" kE ["thing"]
 x_is_between:jm K mg "is_between" vm ["thing", "least", "most"]
 x_is_look:jm K mg "is_look" vP ["thing"]
 x_check_look:jm K mg "check_look" vo ["thing"]
 x_letter_at:jm K mg "letter_at" wg ["word", "place"]
 x_pairs:jm K mg "pairs" xb ["words", "look"]
 x_check_room:jm K mg "check_room" vp ["thing"]
 x_is_numbers:jm K mg "is_numbers" jO ["thing", "count", "room"]
 x_check_numbers:jm K mg "check_numbers" jU ["thing", "count", "room"]
 x_told_pairs:jm K mg "told_pairs" vt ["words", "look", "room", "numbers"]
 x_is_odd:jm K mg "is_odd" xV ["walk"]
 x_comes_to:jm K mg "comes_to" uh ["walk", "numbers", "start"]
 x_bars:jm K mg "bars" WK ["walk", "room", "numbers"]
 x_letters_of:jm K mg "letters_of" jp ["seen"]
 x_other_letter:jm K mg "other_letter" kn ["pair", "letter"]
 x_spread:jm K mg "spread" xX ["seen", "root", "ways"]
 x_ways_of:jm K mg "ways_of" yB ["seen"]
 x_circles_of:jm K mg "circles_of" vy ["seen", "ways"]
 x_first_odd:jm K mg "first_odd" wm ["circles"]
 x_bar_of:jm K mg "bar_of" uj ["seen", "room", "numbers"]
 x_bar:jm K mg "bar" qaq ["words", "look", "room", "numbers"]
 x_half:jm K mg "half" WN ["total", "room"]
 x_root_worths:jm K mg "root_worths" kI ["walk", "room", "numbers"]
 x_roots_of:jm K mg "roots_of" jP ["seen", "room", "numbers"]
 x_how_many:jm K mg "how_many" ul ["words", "look", "room", "numbers"]
 x_can_be_left_out:jm K mg "can_be_left_out" qF ["seen", "room", "numbers", "gone"]
 x_one_longer:jm K mg "one_longer" jQ ["choices", "count"]
 x_fewest:jm K mg "fewest" uo ["seen", "room", "numbers"]
 x_left_out:jm K mg "left_out" uq ["words", "look", "room", "numbers"]
 x_least_without:jm K mg "least_without" jX ["seen", "room", "numbers", "gone"]
 x_mended:jm K mg "mended" ur ["words", "look", "room", "numbers"]
 x_Lcell_at:jm K mg "_law_cell_at" ut ["_law_script", "_law_k"]
 x_Lmixed:jm K mg "_law_mixed" zc ["_law_script", "_law_k", "_law_many"]
 x_Ldraw:jm K mg "_law_draw" QH ["_law_script", "_law_town", "_law_many"]
 x_Llook:jm K mg "_law_look" QI ["_law_script", "_law_town"]
 x_Lpick:jm K mg "_law_pick" QJ ["_law_script", "_law_town", "_law_some"]
 x_Lword:jm K mg "_law_word" xl ["_law_script", "_law_town", "_law_letters_here", "_law_most"]
 x_Lhalf:jm K mg "_law_half" xm ["_law_script", "_law_town", "_law_letters_here", "_law_look_here", "_law_room"]
variable {cv:Str->Value} {ca:Str->Addr}
theorem qfj {P:Program} {w:World} {base:Heap} {f:Addr} {fd:FuncData} (Z:Zt K mg cv ca) (T:Tx K mg ca) (F:Fun K "law" "law" VC f fd):FnOk P w K mg base (CXk P w) 9 f fd ["_law_script"] (spD K cv [.val] .sh qaB):=by
 have o_is_letter:=Ke (P:=P) (w:=w) (base:=base) Z T.x_is_letter 
 have o_is_word:=UX (P:=P) (w:=w) (base:=base) Z T.x_is_word o_is_letter
 have o_is_words:=Vm (P:=P) (w:=w) (base:=base) Z T.x_is_words o_is_word
 have o_check_words:=gu (P:=P) (w:=w) (base:=base) Z T.x_check_words o_is_words
 have o_is_between:=Qn (P:=P) (w:=w) (base:=base) Z T.x_is_between 
 have o_is_look:=UZ (P:=P) (w:=w) (base:=base) Z T.x_is_look o_is_between
 have o_check_look:=Qp (P:=P) (w:=w) (base:=base) Z T.x_check_look o_is_look
 have o_letter_at:=Kf (P:=P) (w:=w) (base:=base) Z T.x_letter_at 
 have o_pairs:=qap (P:=P) (w:=w) (base:=base) Z T.x_pairs o_check_words o_check_look o_letter_at
 have o_check_room:=Qs (P:=P) (w:=w) (base:=base) Z T.x_check_room o_is_between
 have o_is_numbers:=Qu (P:=P) (w:=w) (base:=base) Z T.x_is_numbers o_is_between
 have o_check_numbers:=xK (P:=P) (w:=w) (base:=base) Z T.x_check_numbers o_is_numbers
 have o_told_pairs:=Qv (P:=P) (w:=w) (base:=base) Z T.x_told_pairs o_check_room o_check_numbers o_pairs
 have o_is_odd:=XO (P:=P) (w:=w) (base:=base) Z T.x_is_odd 
 have o_comes_to:=Vp (P:=P) (w:=w) (base:=base) Z T.x_comes_to 
 have o_bars:=qcK (P:=P) (w:=w) (base:=base) Z T.x_bars o_comes_to o_is_odd
 have o_letters_of:=Qx (P:=P) (w:=w) (base:=base) Z T.x_letters_of 
 have o_other_letter:=zN (P:=P) (w:=w) (base:=base) Z T.x_other_letter 
 have o_spread:=XR (P:=P) (w:=w) (base:=base) Z T.x_spread o_other_letter
 have o_ways_of:=Yb (P:=P) (w:=w) (base:=base) Z T.x_ways_of o_letters_of o_spread
 have o_circles_of:=QA (P:=P) (w:=w) (base:=base) Z T.x_circles_of 
 have o_first_odd:=Kh (P:=P) (w:=w) (base:=base) Z T.x_first_odd o_is_odd
 have o_bar_of:=XS (P:=P) (w:=w) (base:=base) Z T.x_bar_of o_is_odd o_bars o_ways_of o_circles_of o_first_odd
 have o_bar:=qeG (P:=P) (w:=w) (base:=base) Z T.x_bar o_told_pairs o_bar_of
 have o_half:=qcN (P:=P) (w:=w) (base:=base) Z T.x_half 
 have o_root_worths:=gx (P:=P) (w:=w) (base:=base) Z T.x_root_worths o_comes_to o_half
 have o_roots_of:=Vq (P:=P) (w:=w) (base:=base) Z T.x_roots_of o_ways_of o_circles_of o_first_odd o_root_worths
 have o_how_many:=Vr (P:=P) (w:=w) (base:=base) Z T.x_how_many o_pairs o_bar o_roots_of
 have o_can_be_left_out:=yF (P:=P) (w:=w) (base:=base) Z T.x_can_be_left_out o_bar_of
 have o_one_longer:=QC (P:=P) (w:=w) (base:=base) Z T.x_one_longer 
 have o_fewest:=XW (P:=P) (w:=w) (base:=base) Z T.x_fewest o_can_be_left_out o_one_longer
 have o_left_out:=Vs (P:=P) (w:=w) (base:=base) Z T.x_left_out o_told_pairs o_fewest
 have o_can_be_left_outL:=uR (P:=P) (w:=w) (base:=base) Z T.x_can_be_left_out o_bar_of
 have o_least_without:=xL (P:=P) (w:=w) (base:=base) Z T.x_least_without o_can_be_left_outL
 have o_mended:=XX (P:=P) (w:=w) (base:=base) Z T.x_mended o_told_pairs o_fewest o_least_without
 have o_Lcell_at:=Vu (P:=P) (w:=w) (base:=base) Z T.x_Lcell_at 
 have o_Lmixed:=XY (P:=P) (w:=w) (base:=base) Z T.x_Lmixed o_Lcell_at
 have o_Ldraw:=qas (P:=P) (w:=w) (base:=base) Z T.x_Ldraw o_Lmixed
 have o_Llook:=qau (P:=P) (w:=w) (base:=base) Z T.x_Llook o_Ldraw
 have o_Lpick:=qaw (P:=P) (w:=w) (base:=base) Z T.x_Lpick o_Ldraw
 have o_Lword:=qay (P:=P) (w:=w) (base:=base) Z T.x_Lword o_Ldraw o_Lpick
 have o_Lhalf:=qaz (P:=P) (w:=w) (base:=base) Z T.x_Lhalf o_Ldraw o_Lword
 exact qeH Z F o_how_many o_left_out o_mended o_Ldraw o_Llook o_Lhalf
def qaU (K:Frag):Sp:=fun vs H Q _=>∃ (a:Addr) (ns:List Int),vs=[.ref a]/\SqL K H a (ns.map V.int)/\∀ H',Q (.bl true) H'
theorem Ut {F:Hp}:∀ ns:List Int,IsL K F (ns.map V.int) (ns.map D.int)
 | []=>.nil
 | n::ns=>.cons (.int n) (Ut ns)
theorem qgK (h:qhj ca) (vs:List V) (H:Hp) (Q:VK) (E:XK) (q:qaU K vs H Q E):spD K cv [.val] .sh qaB vs H Q E:=by
 obtain ⟨a,ns,rfl,hs,hq⟩:=q
 refine ⟨H,[scr ns],Same.refl _,⟨.lst hs (Ut ns),trivial⟩,dI,?_⟩
 rw [qfg ns]
 intro v F' H' a1 a2 a3 a4
 have a4:Is K F' v (.bl true):=a4
 cases a4
 exact hq H'
abbrev NsX (K:Frag) (x:Str) (f:Addr):Prop:=nsIn K mainGlobals x=some (some (.ref f))
abbrev CdX (K:Frag) (v:Value) (x:Str):Prop:=codeIn K v x=true
abbrev KpX (K:Frag) (f:Addr):Prop:=keepIn K (.ref f)=true
abbrev LkX (K:Frag) (x:Str) (st:Stmt) (f:Addr) (oc:Value) (od an:Option Addr) (sl:Array (Option Value)) (kV dc pm cd ct:Value):Prop:=K.lookup f=some ⟨oc,od,.func (cA x x (uH st) (vV st) (qf st) .none kV dc pm an cd ct),sl⟩
theorem qfk {l:e9} {w:World} {fa:Addr} (X:K.In h) (G:h.Ns mainGlobals mg) (hfa:mg "law"=some (.ref fa)) {CW C0 C1 C2 C3:Addr} {t_LEAST_PLACE t_MOST_LETTERS t_MOST_PLACE t_MOST_ROOM t_MOST_WORDS:Tok} {f0 f1 f2 f3 f4 f5 f6 f7 f8 f9 f10 f11 f12 f13 f14 f15 f16 f17 f18 f19 f20 f21 f22 f23 f24 f25 f26 f27 f28 f29 f30 f31 f32 f33 f34 f35 f36 f37 f38 f39 f40 f41:Addr} {v0 g0 h0 i0 j0 m0 v1 g1 h1 i1 j1 m1 v2 g2 h2 i2 j2 m2 v3 g3 h3 i3 j3 m3 v4 g4 h4 i4 j4 m4 v5 g5 h5 i5 j5 m5 v6 g6 h6 i6 j6 m6 v7 g7 h7 i7 j7 m7 v8 g8 h8 i8 j8 m8 v9 g9 h9 i9 j9 m9 v10 g10 h10 i10 j10 m10 v11 g11 h11 i11 j11 m11 v12 g12 h12 i12 j12 m12 v13 g13 h13 i13 j13 m13 v14 g14 h14 i14 j14 m14 v15 g15 h15 i15 j15 m15 v16 g16 h16 i16 j16 m16 v17 g17 h17 i17 j17 m17 v18 g18 h18 i18 j18 m18 v19 g19 h19 i19 j19 m19 v20 g20 h20 i20 j20 m20 v21 g21 h21 i21 j21 m21 v22 g22 h22 i22 j22 m22 v23 g23 h23 i23 j23 m23 v24 g24 h24 i24 j24 m24 v25 g25 h25 i25 j25 m25 v26 g26 h26 i26 j26 m26 v27 g27 h27 i27 j27 m27 v28 g28 h28 i28 j28 m28 v29 g29 h29 i29 j29 m29 v30 g30 h30 i30 j30 m30 v31 g31 h31 i31 j31 m31 v32 g32 h32 i32 j32 m32 v33 g33 h33 i33 j33 m33 v34 g34 h34 i34 j34 m34 v35 g35 h35 i35 j35 m35 v36 g36 h36 i36 j36 m36 v37 g37 h37 i37 j37 m37 v38 g38 h38 i38 j38 m38 v39 g39 h39 i39 j39 m39 v40 g40 h40 i40 j40 m40 v41 g41 h41 i41 j41 m41:Value} {o0 p0 o1 p1 o2 p2 o3 p3 o4 p4 o5 p5 o6 p6 o7 p7 o8 p8 o9 p9 o10 p10 o11 p11 o12 p12 o13 p13 o14 p14 o15 p15 o16 p16 o17 p17 o18 p18 o19 p19 o20 p20 o21 p21 o22 p22 o23 p23 o24 p24 o25 p25 o26 p26 o27 p27 o28 p28 o29 p29 o30 p30 o31 p31 o32 p32 o33 p33 o34 p34 o35 p35 o36 p36 o37 p37 o38 p38 o39 p39 o40 p40 o41 p41:Option Addr} {s0 s1 s2 s3 s4 s5 s6 s7 s8 s9 s10 s11 s12 s13 s14 s15 s16 s17 s18 s19 s20 s21 s22 s23 s24 s25 s26 s27 s28 s29 s30 s31 s32 s33 s34 s35 s36 s37 s38 s39 s40 s41:Array (Option Value)}
  (aW:nsIn K mainGlobals "WordError"=some (some (.ref CW)))
  (a0:nsIn K mainGlobals "NoWords"=some (some (.ref C0)))
  (a1:nsIn K mainGlobals "NoLook"=some (some (.ref C1)))
  (a2:nsIn K mainGlobals "NoNumbers"=some (some (.ref C2)))
  (a3:nsIn K mainGlobals "NoRoom"=some (some (.ref C3)))
  (z_all:nsIn K mainGlobals "all"=some none)
  (z_bool:nsIn K mainGlobals "bool"=some none)
  (z_enumerate:nsIn K mainGlobals "enumerate"=some none)
  (z_int:nsIn K mainGlobals "int"=some none)
  (z_isinstance:nsIn K mainGlobals "isinstance"=some none)
  (z_len:nsIn K mainGlobals "len"=some none)
  (z_list:nsIn K mainGlobals "list"=some none)
  (z_max:nsIn K mainGlobals "max"=some none)
  (z_min:nsIn K mainGlobals "min"=some none)
  (z_range:nsIn K mainGlobals "range"=some none)
  (z_reversed:nsIn K mainGlobals "reversed"=some none)
  (z_set:nsIn K mainGlobals "set"=some none)
  (z_sorted:nsIn K mainGlobals "sorted"=some none)
  (z_str:nsIn K mainGlobals "str"=some none)
  (z_tuple:nsIn K mainGlobals "tuple"=some none)
  (c_LEAST_PLACE:nsIn K mainGlobals "LEAST_PLACE"=some (some (.int (-3) t_LEAST_PLACE)))
  (c_MOST_LETTERS:nsIn K mainGlobals "MOST_LETTERS"=some (some (.int 6 t_MOST_LETTERS)))
  (c_MOST_PLACE:nsIn K mainGlobals "MOST_PLACE"=some (some (.int 2 t_MOST_PLACE)))
  (c_MOST_ROOM:nsIn K mainGlobals "MOST_ROOM"=some (some (.int 99 t_MOST_ROOM)))
  (c_MOST_WORDS:nsIn K mainGlobals "MOST_WORDS"=some (some (.int 6 t_MOST_WORDS)))
  (ex:qaS K [C0,C1,C2,C3] CW=true)
  (b_0:NsX K "is_letter" f0) (l_0:LkX K "is_letter" wb f0 v0 o0 p0 s0 g0 h0 i0 j0 m0) (d_0:CdX K j0 "is_letter") (k_0:KpX K f0)
  (b_1:NsX K "is_word" f1) (l_1:LkX K "is_word" vN f1 v1 o1 p1 s1 g1 h1 i1 j1 m1) (d_1:CdX K j1 "is_word") (k_1:KpX K f1)
  (b_2:NsX K "is_words" f2) (l_2:LkX K "is_words" kM f2 v2 o2 p2 s2 g2 h2 i2 j2 m2) (d_2:CdX K j2 "is_words") (k_2:KpX K f2)
  (b_3:NsX K "check_words" f3) (l_3:LkX K "check_words" kE f3 v3 o3 p3 s3 g3 h3 i3 j3 m3) (d_3:CdX K j3 "check_words") (k_3:KpX K f3)
  (b_4:NsX K "is_between" f4) (l_4:LkX K "is_between" vm f4 v4 o4 p4 s4 g4 h4 i4 j4 m4) (d_4:CdX K j4 "is_between") (k_4:KpX K f4)
  (b_5:NsX K "is_look" f5) (l_5:LkX K "is_look" vP f5 v5 o5 p5 s5 g5 h5 i5 j5 m5) (d_5:CdX K j5 "is_look") (k_5:KpX K f5)
  (b_6:NsX K "check_look" f6) (l_6:LkX K "check_look" vo f6 v6 o6 p6 s6 g6 h6 i6 j6 m6) (d_6:CdX K j6 "check_look") (k_6:KpX K f6)
  (b_7:NsX K "letter_at" f7) (l_7:LkX K "letter_at" wg f7 v7 o7 p7 s7 g7 h7 i7 j7 m7) (d_7:CdX K j7 "letter_at") (k_7:KpX K f7)
  (b_8:NsX K "pairs" f8) (l_8:LkX K "pairs" xb f8 v8 o8 p8 s8 g8 h8 i8 j8 m8) (d_8:CdX K j8 "pairs") (k_8:KpX K f8)
  (b_9:NsX K "check_room" f9) (l_9:LkX K "check_room" vp f9 v9 o9 p9 s9 g9 h9 i9 j9 m9) (d_9:CdX K j9 "check_room") (k_9:KpX K f9)
  (b_10:NsX K "is_numbers" f10) (l_10:LkX K "is_numbers" jO f10 v10 o10 p10 s10 g10 h10 i10 j10 m10) (d_10:CdX K j10 "is_numbers") (k_10:KpX K f10)
  (b_11:NsX K "check_numbers" f11) (l_11:LkX K "check_numbers" jU f11 v11 o11 p11 s11 g11 h11 i11 j11 m11) (d_11:CdX K j11 "check_numbers") (k_11:KpX K f11)
  (b_12:NsX K "told_pairs" f12) (l_12:LkX K "told_pairs" vt f12 v12 o12 p12 s12 g12 h12 i12 j12 m12) (d_12:CdX K j12 "told_pairs") (k_12:KpX K f12)
  (b_13:NsX K "is_odd" f13) (l_13:LkX K "is_odd" xV f13 v13 o13 p13 s13 g13 h13 i13 j13 m13) (d_13:CdX K j13 "is_odd") (k_13:KpX K f13)
  (b_14:NsX K "comes_to" f14) (l_14:LkX K "comes_to" uh f14 v14 o14 p14 s14 g14 h14 i14 j14 m14) (d_14:CdX K j14 "comes_to") (k_14:KpX K f14)
  (b_15:NsX K "bars" f15) (l_15:LkX K "bars" WK f15 v15 o15 p15 s15 g15 h15 i15 j15 m15) (d_15:CdX K j15 "bars") (k_15:KpX K f15)
  (b_16:NsX K "letters_of" f16) (l_16:LkX K "letters_of" jp f16 v16 o16 p16 s16 g16 h16 i16 j16 m16) (d_16:CdX K j16 "letters_of") (k_16:KpX K f16)
  (b_17:NsX K "other_letter" f17) (l_17:LkX K "other_letter" kn f17 v17 o17 p17 s17 g17 h17 i17 j17 m17) (d_17:CdX K j17 "other_letter") (k_17:KpX K f17)
  (b_18:NsX K "spread" f18) (l_18:LkX K "spread" xX f18 v18 o18 p18 s18 g18 h18 i18 j18 m18) (d_18:CdX K j18 "spread") (k_18:KpX K f18)
  (b_19:NsX K "ways_of" f19) (l_19:LkX K "ways_of" yB f19 v19 o19 p19 s19 g19 h19 i19 j19 m19) (d_19:CdX K j19 "ways_of") (k_19:KpX K f19)
  (b_20:NsX K "circles_of" f20) (l_20:LkX K "circles_of" vy f20 v20 o20 p20 s20 g20 h20 i20 j20 m20) (d_20:CdX K j20 "circles_of") (k_20:KpX K f20)
  (b_21:NsX K "first_odd" f21) (l_21:LkX K "first_odd" wm f21 v21 o21 p21 s21 g21 h21 i21 j21 m21) (d_21:CdX K j21 "first_odd") (k_21:KpX K f21)
  (b_22:NsX K "bar_of" f22) (l_22:LkX K "bar_of" uj f22 v22 o22 p22 s22 g22 h22 i22 j22 m22) (d_22:CdX K j22 "bar_of") (k_22:KpX K f22)
  (b_23:NsX K "bar" f23) (l_23:LkX K "bar" qaq f23 v23 o23 p23 s23 g23 h23 i23 j23 m23) (d_23:CdX K j23 "bar") (k_23:KpX K f23)
  (b_24:NsX K "half" f24) (l_24:LkX K "half" WN f24 v24 o24 p24 s24 g24 h24 i24 j24 m24) (d_24:CdX K j24 "half") (k_24:KpX K f24)
  (b_25:NsX K "root_worths" f25) (l_25:LkX K "root_worths" kI f25 v25 o25 p25 s25 g25 h25 i25 j25 m25) (d_25:CdX K j25 "root_worths") (k_25:KpX K f25)
  (b_26:NsX K "roots_of" f26) (l_26:LkX K "roots_of" jP f26 v26 o26 p26 s26 g26 h26 i26 j26 m26) (d_26:CdX K j26 "roots_of") (k_26:KpX K f26)
  (b_27:NsX K "how_many" f27) (l_27:LkX K "how_many" ul f27 v27 o27 p27 s27 g27 h27 i27 j27 m27) (d_27:CdX K j27 "how_many") (k_27:KpX K f27)
  (b_28:NsX K "can_be_left_out" f28) (l_28:LkX K "can_be_left_out" qF f28 v28 o28 p28 s28 g28 h28 i28 j28 m28) (d_28:CdX K j28 "can_be_left_out") (k_28:KpX K f28)
  (b_29:NsX K "one_longer" f29) (l_29:LkX K "one_longer" jQ f29 v29 o29 p29 s29 g29 h29 i29 j29 m29) (d_29:CdX K j29 "one_longer") (k_29:KpX K f29)
  (b_30:NsX K "fewest" f30) (l_30:LkX K "fewest" uo f30 v30 o30 p30 s30 g30 h30 i30 j30 m30) (d_30:CdX K j30 "fewest") (k_30:KpX K f30)
  (b_31:NsX K "left_out" f31) (l_31:LkX K "left_out" uq f31 v31 o31 p31 s31 g31 h31 i31 j31 m31) (d_31:CdX K j31 "left_out") (k_31:KpX K f31)
  (b_32:NsX K "least_without" f32) (l_32:LkX K "least_without" jX f32 v32 o32 p32 s32 g32 h32 i32 j32 m32) (d_32:CdX K j32 "least_without") (k_32:KpX K f32)
  (b_33:NsX K "mended" f33) (l_33:LkX K "mended" ur f33 v33 o33 p33 s33 g33 h33 i33 j33 m33) (d_33:CdX K j33 "mended") (k_33:KpX K f33)
  (b_34:NsX K "_law_cell_at" f34) (l_34:LkX K "_law_cell_at" ut f34 v34 o34 p34 s34 g34 h34 i34 j34 m34) (d_34:CdX K j34 "_law_cell_at") (k_34:KpX K f34)
  (b_35:NsX K "_law_mixed" f35) (l_35:LkX K "_law_mixed" zc f35 v35 o35 p35 s35 g35 h35 i35 j35 m35) (d_35:CdX K j35 "_law_mixed") (k_35:KpX K f35)
  (b_36:NsX K "_law_draw" f36) (l_36:LkX K "_law_draw" QH f36 v36 o36 p36 s36 g36 h36 i36 j36 m36) (d_36:CdX K j36 "_law_draw") (k_36:KpX K f36)
  (b_37:NsX K "_law_look" f37) (l_37:LkX K "_law_look" QI f37 v37 o37 p37 s37 g37 h37 i37 j37 m37) (d_37:CdX K j37 "_law_look") (k_37:KpX K f37)
  (b_38:NsX K "_law_pick" f38) (l_38:LkX K "_law_pick" QJ f38 v38 o38 p38 s38 g38 h38 i38 j38 m38) (d_38:CdX K j38 "_law_pick") (k_38:KpX K f38)
  (b_39:NsX K "_law_word" f39) (l_39:LkX K "_law_word" xl f39 v39 o39 p39 s39 g39 h39 i39 j39 m39) (d_39:CdX K j39 "_law_word") (k_39:KpX K f39)
  (b_40:NsX K "_law_half" f40) (l_40:LkX K "_law_half" xm f40 v40 o40 p40 s40 g40 h40 i40 j40 m40) (d_40:CdX K j40 "_law_half") (k_40:KpX K f40)
  (b_41:NsX K "law" f41) (l_41:LkX K "law" VC f41 v41 o41 p41 s41 g41 h41 i41 j41 m41) (d_41:CdX K j41 "law") (k_41:KpX K f41) :
  ∃ fd:FuncData,(∀ (s:Shared) (v:Value),BindsTo s fd ⟨[v],[]⟩ [("_law_script",v)])/\∀ base:Heap,K.In base->base.Ns mainGlobals mg->FnOk l.prog w K mg base (CXk l.prog w) 9 fa fd ["_law_script"] (qaU K):=by
 have e:=hfa.symm.trans (mg_of X G b_41)
 cases e
 obtain ⟨Z,cok⟩:=qgJ X G aW a0 a1 a2 a3 z_all z_bool z_enumerate z_int z_isinstance z_len z_list z_max z_min z_range z_reversed z_set z_sorted z_str z_tuple c_LEAST_PLACE c_MOST_LETTERS c_MOST_PLACE c_MOST_ROOM c_MOST_WORDS ex
 have T:Tx K mg (caT [("WordError",CW),("NoWords",C0),("NoLook",C1),("NoNumbers",C2),("NoRoom",C3)]):=⟨qC X G b_0 l_0 d_0 k_0,qC X G b_1 l_1 d_1 k_1,qC X G b_2 l_2 d_2 k_2,qC X G b_3 l_3 d_3 k_3,qC X G b_4 l_4 d_4 k_4,qC X G b_5 l_5 d_5 k_5,qC X G b_6 l_6 d_6 k_6,qC X G b_7 l_7 d_7 k_7,qC X G b_8 l_8 d_8 k_8,qC X G b_9 l_9 d_9 k_9,qC X G b_10 l_10 d_10 k_10,qC X G b_11 l_11 d_11 k_11,qC X G b_12 l_12 d_12 k_12,qC X G b_13 l_13 d_13 k_13,qC X G b_14 l_14 d_14 k_14,qC X G b_15 l_15 d_15 k_15,qC X G b_16 l_16 d_16 k_16,qC X G b_17 l_17 d_17 k_17,qC X G b_18 l_18 d_18 k_18,qC X G b_19 l_19 d_19 k_19,qC X G b_20 l_20 d_20 k_20,qC X G b_21 l_21 d_21 k_21,qC X G b_22 l_22 d_22 k_22,qC X G b_23 l_23 d_23 k_23,qC X G b_24 l_24 d_24 k_24,qC X G b_25 l_25 d_25 k_25,qC X G b_26 l_26 d_26 k_26,qC X G b_27 l_27 d_27 k_27,qC X G b_28 l_28 d_28 k_28,qC X G b_29 l_29 d_29 k_29,qC X G b_30 l_30 d_30 k_30,qC X G b_31 l_31 d_31 k_31,qC X G b_32 l_32 d_32 k_32,qC X G b_33 l_33 d_33 k_33,qC X G b_34 l_34 d_34 k_34,qC X G b_35 l_35 d_35 k_35,qC X G b_36 l_36 d_36 k_36,qC X G b_37 l_37 d_37 k_37,qC X G b_38 l_38 d_38 k_38,qC X G b_39 l_39 d_39 k_39,qC X G b_40 l_40 d_40 k_40⟩
 have F:=YB (st:=VC) l_41 d_41 k_41
 exact ⟨_,fun s v=>.of_eq rfl,fun base _ _=>(qfj (P:=l.prog) (w:=w) (base:=base) Z T F).imp fun vs H Q E q=>qgK cok vs H Q E q⟩
theorem qhI {l:e9} {q:Program} {loose:List Str} {XP:(Str->Option Value)->Heap->Prop} {YP:World->Heap->Prop} {d:DefRec} {K:Params->Frag} (hn:l.most=some 63) (hdf:d.params.defaults=[])
  (hY:∀ (w:World) (h:Heap),YP w h->(K w.params).In h)
  (F:∀ (w:World) (mg:Str->Option Value) (fa:Addr) (h:Heap),(K w.params).In h->h.Ns mainGlobals mg->mg d.name=some (.ref fa) ->
   ∃ fd:FuncData,(∀ (s:Shared) (u:Value),BindsTo s fd ⟨[u],[]⟩ [("_law_script",u)])/\∀ base:Heap,(K w.params).In base->base.Ns mainGlobals mg->FnOk l.prog w (K w.params) mg base (CXk l.prog w) 9 fa fd ["_law_script"] (qaU (K w.params))) :
  PySem.W.WalkO q loose XP YP l.row.toRowW d [] (fun f vs=>fK f vs):=
 L2.qb3 (n:=63) (k:=9) (x := "_law_script") (CX:=fun w=>CXk l.prog w) (sp:=fun w=>qaU (K w.params)) hn (by decide) hdf ⟨rfl,by decide,by decide⟩ hY F (fun _ _ a ns hl _ hS=>⟨a,ns,rfl,hS,fun _=>rfl⟩) fun w H s e s' z=>by
  obtain ⟨ex,T,C,H',_,_,_,_,_,_,_,_,_,_,q⟩:=z
  exact q.elim
end Kx
open PySem PySem.W PyProof.Rows
set_option maxRecDepth 100000 in
set_option maxHeartbeats 0 in
theorem PySem.Challenge.cw_lookwords_k32_whole_apart_holds : PySem.Challenge.rw_lookwords_k32_whole_apart.Holds := by
  refine Kx.hd ?_
  k_fill
  refine Kx.qhI (l := PySem.Challenge.rw_lookwords_k32_whole_apart) rfl rfl (fun w h Y => PySem.W.kIn_of Y) ?F
  case F =>
    intro w mg fa h KX G hmg
    refine' Kx.qfk KX G hmg ?_ ?_ ?_ ?_ ?_ ?_ ?_ ?_ ?_ ?_ ?_ ?_ ?_ ?_ ?_ ?_ ?_ ?_ ?_ ?_ ?_ ?_ ?_ ?_ ?_ ?_ ?_ ?_ ?_ ?_ ?_ ?_ ?_ ?_ ?_ ?_ ?_ ?_ ?_ ?_ ?_ ?_ ?_ ?_ ?_ ?_ ?_ ?_ ?_ ?_ ?_ ?_ ?_ ?_ ?_ ?_ ?_ ?_ ?_ ?_ ?_ ?_ ?_ ?_ ?_ ?_ ?_ ?_ ?_ ?_ ?_ ?_ ?_ ?_ ?_ ?_ ?_ ?_ ?_ ?_ ?_ ?_ ?_ ?_ ?_ ?_ ?_ ?_ ?_ ?_ ?_ ?_ ?_ ?_ ?_ ?_ ?_ ?_ ?_ ?_ ?_ ?_ ?_ ?_ ?_ ?_ ?_ ?_ ?_ ?_ ?_ ?_ ?_ ?_ ?_ ?_ ?_ ?_ ?_ ?_ ?_ ?_ ?_ ?_ ?_ ?_ ?_ ?_ ?_ ?_ ?_ ?_ ?_ ?_ ?_ ?_ ?_ ?_ ?_ ?_ ?_ ?_ ?_ ?_ ?_ ?_ ?_ ?_ ?_ ?_ ?_ ?_ ?_ ?_ ?_ ?_ ?_ ?_ ?_ ?_ ?_ ?_ ?_ ?_ ?_ ?_ ?_ ?_ ?_ ?_ ?_ ?_ ?_ ?_ ?_ ?_ ?_ ?_ ?_ ?_ ?_ ?_ ?_ ?_ ?_ ?_ ?_ ?_ ?_ ?_ ?_ ?_ ?_ ?_
    all_goals try first | k_is | (unfold Kx.NsX; k_is) | (unfold Kx.LkX; k_is) | (unfold Kx.CdX; k_is) | (unfold Kx.KpX; k_is) | kernel_rfl

