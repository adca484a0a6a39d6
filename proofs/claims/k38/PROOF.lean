import PyProof.Rows.All
import KE.KTryMore
import KE.KDictOf
import KE.KItem
import KE.KRevSl
import PySem.Challenge.RW_lookwords_k38_whole_two_books
open PySem.Heap renaming get?_push_of_some→aa,get?_push_size→ag,lt_size→ap,get?_update_self→bw,SameBut→bA,size_push→bT,get?_update_other→cX,ExtBut→fL
open List renaming mem_cons→ac,getElem?_set_ne→ad,length_cons→ae,mem_cons_of_mem→af,getElem?_cons_succ→ah,getElem?_cons_zero→aj,size_toArray→ak,length_append→am,length_nil→aq,replicate→au,mem_cons_self→aw,map_cons→aA,mem_singleton→aC,getElem?_eq_some_iff→aE,getElem?_set_self→aF,length_map→aG,mem_map→aH,getElem?_eq_getElem→aJ,set_cons_zero→aM,set_cons_succ→aN,nodup_cons→aS,map_nil→aT,mem_append_right→aU,zip→aV,getElem?_map→aY,all_eq_true→aZ,mem_append→bc,getElem?_replicate→bf,range→bg,append_nil→bi,length_set→bn,not_mem_nil→bo,cons_append→bp,nil_append→bq,filterMap_cons→bz,getElem?_append_right→bB,pairwise_cons→bG,Nodup→bH,nodup_nil→bJ,replicate_succ→bM,foldl_cons→bO,flatten_cons→cb,lookup→cf,getElem?_eq_none_iff→cg,getElem?_append_left→ci,mem_append_left→cm,getElem_mem→cA,mem_range→cB,length_replicate→cE,getElem?_eq_none→cF,findIdx?_eq_some_iff_getElem→cG,map_append→cI,replicate_zero→cR,lookup_cons→cT,find?_cons→cZ,any_cons→c7,length_singleton→c8,append_assoc→dh,length_range→dj,mem_of_getElem?→dl,getD_eq_getElem?_getD→dq,length_take→dA,drop_eq_getElem_cons→dB,findIdx?_eq_none_iff→dF,all_cons→dH,of_mem_zip→dL,length_eq_zero_iff→dU,pairwise_singleton→dW,reverse_cons→d7,nodup_append→eh,getElem?_toArray→et,mem_iff_getElem→eH,mem_filter→eI,filter_eq_self→eM,length_pos_iff→eN,mem_filterMap→eQ,take_add_one→eY,getElem_inj→ff,drop_length→fg,take_length→fj,map_map→fm,forIn_cons→fA
open PySem.Str renaming ofString→ao,length→fE
open Nat renaming le_refl→ax,ne_of_lt→ay,lt_of_lt_of_le→aO,zero_le→bt,lt_irrefl→bu,le_trans→bW,lt_succ_of_lt→dg,le_of_lt→dt,ne_of_gt→dw,le_of_eq→dY,lt_trans→d9,zero_add→ei,lt_succ_self→eC,le_add_right→eD,sub_self→eO,le_succ→eV
open Or renaming inl→aI,inr→c9
open PySem.W renaming findIn→aK,hideAll→bj,emptyDict→bS,exmOne→bU,instObj→cu,fnOf→cz,kitOne→cD,kia_one→cH,hideAll_none→cJ,hideAll_get→cP,plainGet→cS,isFn→cW,hasDictIn→df,excIn→dI,of_hideAll→dO,plainOver→dX,plainGet_of→eL,lookIn→eR,callWith_K→eS,methodObj→eU,takerIn→fq,makesIn→fy,OpenLaw→fz
open PySem.Builtin.Frozenset renaming updateFrom→aL,isAnySet→be
open Bool renaming and_eq_true→aP,false_eq_true→ba,false_ne_true→bX
open PySem.F renaming called_set→aQ,plainAttrs_list→bY,slot_tuple_iterator_next→ce,slot_zip_next→da,slot_tuple_getattribute→dD,args_tuple_add_2→dG,entry_tuple_add→dS,slot_tuple_add→dZ
open PySem.Builtin.Slice renaming sliceAdjust→aR,slicePlaces→cj
open Ne renaming symm→aX
open PySem.Heap.SameBut renaming update→bb
open PySem.Builtin.SmallTypes renaming nextOf→bh,ownedTupleIsFree→bV
open Option renaming some→br,map_eq_some_iff→bP,bind_eq_some_iff→cr,map_some→dN,bind_some→fk
open PySem renaming strKind→bv,intKind→bL,mem_of_lookup→cQ,Within→fG,call→fM
open Array renaming getElem?_toList→bx,getElem?_eq_getElem→bR,length_toList→cy,getElem?_eq_none→cY,toList_push→eX,mk→fF
open PySem.SetTable renaming below→bD,grown→bI,orStandIn→dQ,laid→fC
open PySem.Around renaming under_plainId→bE,under→fH
open PySem.NameKind renaming free→bK
open PySem.Value renaming ref→bQ,none→ck,bool→cV,int→c6,isInt→eG,isStrOf→e8,str→e9,type→fD
open PyProof.Rows.F renaming plain_set_update_loop→bZ,entry_set_update_loop→cU
open List.Perm renaming refl→cq
open PySem.SeqAt renaming ne_of_list_tuple→cw
open ForInStep renaming yield→cx
open False renaming elim→cC
open PySem.PassesOwn renaming leaving→cK
open PySem.Builtin.List renaming listTooLong→cL
open PySem.Builtin.Tuple renaming tupleExact→cM
open PyProof.Rows renaming slot_tuple_getitem→cN,callWith_type1→db
open PySem.Builtin.Str renaming strSliceIndices→di
open PySem.Obj renaming mapSeq→dm,putSet→eT
open Sum renaming inr→dJ,inl→eE
open True renaming intro→dP
open Int renaming emod_lt_of_pos→dR,emod_nonneg→eJ,toNat_natCast→eZ
open List.Pairwise renaming nil→d8
open PySem.Shared renaming TypeIs→eF
open Function renaming comp_def→e7
open PySem.Txt renaming join→fh
open PySem.Paired renaming length→fB
open PySem.Code renaming isFrame→fI
open PyProof.Rows.IsTup renaming new→fJ
open PySem.Walks renaming tuple→fK,list→fN
noncomputable section
open PySem.W (Frag nsIn keepIn codeIn mg_of mg_none_of)
set_option Elab.async false
set_option linter.all false
set_option maxRecDepth 100000
namespace Kx
noncomputable section
open PySem PySem.W PySem.Calls PyProof.Rows
noncomputable def zP:Pos:=⟨0,0,0,0⟩
noncomputable def anV:Option Value:=some (.ref 6)
noncomputable def hA (P:Params):List Obj:=(boot_heap P).objs.toList++[⟨.type "tuple",none,.seq #[] 0,#[]⟩,⟨.none,none,.fields #[],#[]⟩,
 ⟨.type "code",none,.fields #[.str "<module>" 182,.str "<module>" 183,.str "/claim/cut.py" 184,.int 1 0,.int 0 0,.int 0 0,.int 0 0,.int 0 0,.ref 11,.bool false,.int 181 0,.ref 12,.none,.none,.none,.none,.int 185 0,.int 1 0,.str "/claim/cut.py" 186],#[]⟩,
 ⟨.type "frame",none,.plain,#[some (.ref 13),some (.ref 3),some (.ref 3),none,some (.str "__main__" 164),none,some (.ref 0)]⟩]
noncomputable def enP (p:Program):Env:={ scope:=p.main.scope,locals:=mainNs,globals:=mainNs,cells:=[],code:=.ref 13,frame:=some 14 }
noncomputable def cdP (p:Program):Code:=.body (behindTheImports p) (enP p)
noncomputable def trA:List Obj->Nat->BT->BT
 | [],_,t=>t
 | o::l,i,t=>trA l (i+1) (t.ins i o)
noncomputable def SA (w:World) (os:OsState):SharedT:=⟨trA (hA w.params) 0 .nil,15,(boot_heap w.params).life,fF [],boot_drawn,187,os⟩
noncomputable def qeH (p:Program) (w:World) (M:Nat) (os:OsState):Option (Flow×Code×Shared):=
 (segRunT treeTable p w 11 anV 1 M (SA w os) (piecesOf (behindTheImports p) (enP p) (cdP p) zP [topFrame zP])).bind fun r=>
  (topRun treeTable p w 11 anV 5 r.2.1.abs (restOf [] (enP p) (cdP p) r.2.2.2 [topFrame zP])).map fun s=>(r.1,r.2.2.1,s)
abbrev qbb (p q:Program) (loose:List Str) (Xt:Shared->Bool) (w:World) (x:Flow×Code×Shared):=
 (x.1,x.2.1,(staticsOk (importedModules p.main.body) (boot_heap w.params) x.2.2.heap&&namesBound p x.2.2.heap&&gensDone x.2.2&&laidKept (boot_heap w.params) x.2.2.heap),openSeen q loose (importedModules p.main.body) Xt true x.2.2)
theorem left_T {p q:Program} {loose:List Str} {Xt:Shared->Bool} {α:Type} {Yf:Shared->α} {Ya:World->α} {N M:Nat}
  (e:opening p=plainProg p.main.scope.names) (hN:Nat.ble 600 N=true) (f:∀ s,fenceModules? p s=some s)
  (size:∀ w:World,((boot_heap w.params).isNs mainGlobals&&(fF []:Array GenState).size == 0,(boot_heap w.params).objs.size,(boot_heap w.params).nsMap mainGlobals "__annotations__")=(true,11,anV))
  (pre:∀ (w:World) (os:OsState),topGo treeTable p w 11 anV 12 ⟨boot_heap w.params,fF [],boot_drawn,boot_toks,os⟩ (topStub p)=some ((SA w os).abs,⟨denote treeTable (cdP p),cdP p,zP,[topFrame zP]⟩))
  (blk:∀ (w:World) (os:OsState),segRun treeTable p w 11 anV 1 1 (SA w os).abs (blockOf (behindTheImports p) (enP p) (cdP p) zP [topFrame zP])=some (.next,(SA w os).abs,cdP p,zP))
  (le:Nat.ble (12+(1+(M+5))) N=true)
  (m1:∀ (w:World) (os:OsState),(qeH p w M os).map (qbb p q loose Xt w)=some (.next,cdP p,true,openGood q loose))
  (m2:∀ (w:World) (os:OsState),(qeH p w M os).map (fun x=>Yf x.2.2)=some (Ya w)):LeftO p q loose Xt Yf Ya N:=fun w=>by
 obtain ⟨⟨h,gs,d,k,os⟩,a,a'⟩:=bP.mp (boot_open e hN f w)
 obtain ⟨rfl,rfl,rfl,rfl⟩:h=boot_heap w.params/\gs=fF []/\d=boot_drawn/\k=boot_toks:=by simpa using a'
 obtain ⟨x,hx,hl⟩:=bP.mp (m1 w os)
 obtain ⟨y,hy,hY⟩:=bP.mp (m2 w os)
 obtain rfl:y=x:=br.inj (hy.symm.trans hx)
 obtain ⟨r,hr,hz⟩:=cr.mp hx
 obtain ⟨s,hs,rfl⟩:=bP.mp hz
 obtain ⟨fl,st,co,po⟩:=r
 unfold qbb at hl
 simp only [Prod.mk.injEq] at hl
 obtain ⟨rfl,rfl,l1,l2⟩:=hl
 have t1:=piece_app (rest:=[]) (segRun_of hr) hs
 rw [bi] at t1
 have t2:=piece_block (blk w os) t1
 have t3:=topRun_mono (N - (12+(1+(M+5)))) _ _ _ _ (go_top (pre w os) t2)
 rw [show 12+(1+(M+5))+(N - (12+(1+(M+5))))=N by have:=Nat.le_of_ble_eq_true le; omega] at t3
 obtain ⟨z1,z2,z3⟩:_/\_/\_:=by simpa only [Prod.mk.injEq] using size w
 have t:topFrom treeTable p w N ⟨boot_heap w.params,fF [],boot_drawn,boot_toks,os⟩=some s:=by
  unfold topFrom
  dsimp only
  rw [z1,z2,z3,t3]
  show (match staticsOk (importedModules p.main.body) (boot_heap w.params) s.heap&&namesBound p s.heap&&gensDone s&&laidKept (boot_heap w.params) s.heap with | true=>_ | false=>_)=_
  rw [l1]
 unfold openEnds
 rw [a]
 show (topFrom treeTable p w N _).map _=_
 rw [t]
 exact congrArg some (Prod.ext l2 hY)
end
end Kx
noncomputable section
open PySem PySem.W PyProof.Rows
noncomputable def Kx.vq:Program:=view PySem.Challenge.pw_lookwords_k38_whole_two_books [1,2,3,4,5,6,7,8,10,11,12,13,14,15,16,17,18,19,20,21,22,23,24,25,26,28,29,30,31,32,34,36,37,38,39,40,41,42,43,44,45,46,47,48,49,50]
noncomputable def Kx.xt (s:Shared):Bool:=xlAt Kx.vq [] s&&recOk (RowW.records (OpenRow.toRowW (OpenLaw.row PySem.Challenge.rw_lookwords_k38_whole_two_books))) s
theorem Kx.m1:∀ (w:World) (os:OsState),(Kx.qeH PySem.Challenge.pw_lookwords_k38_whole_two_books w 15000 os).map (Kx.qbb PySem.Challenge.pw_lookwords_k38_whole_two_books Kx.vq [] Kx.xt w)=some (.next,Kx.cdP PySem.Challenge.pw_lookwords_k38_whole_two_books,true,openGood Kx.vq []):=by intro w os; kernel_rfl
local macro_rules | `(tactic| o_head $H) => `(tactic| (refine holds_open (q := Kx.vq) (loose := []) (Xt := Kx.xt) (XP := XL Kx.vq []) (Yf := Hook.obs $H) (Ya := Hook.val $H) (YP := Hook.says $H) (N := 20000) ?hl (Hook.of $H) (Hook.keeps $H) (fun s e => xl_of s (Bool.and_eq_true_iff.mp e).1) XL.keeps (by rfl) (by rfl) (by rfl) (fun s e => recFacts_of (Bool.and_eq_true_iff.mp e).2) (by rfl) (by first | assumption | decide +kernel) (by decide +kernel) ⟨rfl, rfl, rfl, rfl, rfl, by decide +kernel⟩ ?hw ?hc; (case hl => refine Kx.left_T (p := PySem.Challenge.pw_lookwords_k38_whole_two_books) (M := 15000) ?e rfl ?f ?s ?p ?b rfl Kx.m1 ?m; (case e => kernel_rfl); (case f => intro s; kernel_rfl); (case s => intro w; kernel_rfl); (case p => intro w os; kernel_rfl); (case b => intro w os; kernel_rfl); (case m => intro w os; kernel_rfl))))
set_option maxHeartbeats 0 in
open_top Kx.hd for PySem.Challenge.rw_lookwords_k38_whole_two_books
end
namespace L2
open PySem PySem.Spec PyProof.Rows
abbrev Key:=Sum Int Str
noncomputable def zK:Key->Value->Bool
 | .inl k,v=>eG k v
 | .inr x,v=>e8 x v
noncomputable def qf0 (w:World):Key->Int
 | .inl k=>hashInt k
 | .inr x=>hashStr w x
theorem jg:∀ {k:Key} {v:Value},zK k v=true->(∃ i t,k=eE i/\v=c6 i t)\/(∃ x t,k=dJ x/\v=e9 x t)
 | .inl i,v,h=>by
  obtain ⟨t,e⟩:=Value.isInt_shape (k:=i) (v:=v) h
  exact .inl ⟨i,t,rfl,e⟩
 | .inr x,v,h=>by
  obtain ⟨t,e⟩:=Value.isStrOf_shape (x:=x) (v:=v) h
  exact .inr ⟨x,t,rfl,e⟩
theorem QL (i:Int) (t:Tok):zK (.inl i) (.int i t)=true:=by simp [zK,eG]
theorem QM (x:Str) (t:Tok):zK (.inr x) (.str x t)=true:=by simp [zK,e8]
theorem qcM (a b:Int):decide ((eE a:Key)=eE b)=(a == b):=by
 by_cases e:a=b
 ·subst e; simp
 ·have h:¬(eE a:Key)=eE b:=fun q=>e (eE.inj q)
  rw [decide_eq_false h]
  exact (beq_eq_false_iff_ne.mpr e).symm
theorem qcN (a b:Str):decide ((dJ a:Key)=dJ b)=decide (a=b):=by
 by_cases e:a=b
 ·subst e; simp
 ·have h:¬(dJ a:Key)=dJ b:=fun q=>e (dJ.inj q)
  rw [decide_eq_false h,decide_eq_false e]
theorem qcO (a:Int) (b:Str):decide ((eE a:Key)=dJ b)=false:=decide_eq_false (fun q=>nomatch q)
theorem qcP (a:Str) (b:Int):decide ((dJ a:Key)=eE b)=false:=decide_eq_false (fun q=>nomatch q)
noncomputable def jh (prog:Program) (w:World):PySem.KeyKind prog w Key where
 is:=zK
 hash:=qf0 w
 inj:=fun v a b ha hb=>by
  rcases jg ha with ⟨i,t,rfl,rfl⟩ | ⟨x,t,rfl,rfl⟩
  ·rcases jg hb with ⟨j,u,rfl,e⟩ | ⟨y,u,rfl,e⟩
   ·injection e with e1 _; rw [e1]
   ·exact nomatch e
  ·rcases jg hb with ⟨j,u,rfl,e⟩ | ⟨y,u,rfl,e⟩
   ·exact nomatch e
   ·injection e with e1 _; rw [e1]
 byValue:=fun k v h=>by
  rcases jg h with ⟨i,t,rfl,rfl⟩ | ⟨x,t,rfl,rfl⟩ <;> rfl
 pyHash:=fun hv h=>by
  rcases jg hv with ⟨i,t,rfl,rfl⟩ | ⟨x,t,rfl,rfl⟩
  ·exact wpAny_pyHash_int h
  ·exact wpAny_pyHash_str h
 eqBool:=fun hu hv h=>by
  rcases jg hu with ⟨i,t,rfl,rfl⟩ | ⟨x,t,rfl,rfl⟩
  ·rcases jg hv with ⟨j,u,rfl,rfl⟩ | ⟨y,u,rfl,rfl⟩
   ·rw [qcM] at h; exact wpAny_eqBool_int h
   ·rw [qcO] at h; exact SeqAt.EqAt.int_str i t y u _ _ _ _ h
  ·rcases jg hv with ⟨j,u,rfl,rfl⟩ | ⟨y,u,rfl,rfl⟩
   ·rw [qcP] at h; exact SeqAt.EqAt.str_int x t j u _ _ _ _ h
   ·rw [qcN] at h; exact wpAny_eqBool_str h
 «strs»:=fun k x t v h=>by
  rcases jg h with ⟨i,u,rfl,e⟩ | ⟨y,u,rfl,e⟩
  ·exact nomatch e
  ·injection e with e1 _
   subst e1
   cases v <;> rfl
theorem Kk (prog:Program) (w:World) (i:Int) (t:Tok):(jh prog w).is (.inl i) (.int i t)=true:=QL i t
theorem Kl (prog:Program) (w:World) (x:Str) (t:Tok):(jh prog w).is (.inr x) (.str x t)=true:=QM x t
inductive V where
 | non | bl (b:Bool) | int (i:Int) | str (x:Str) | byt (b:Array UInt8) | flt (b:UInt64) | ref (a:Addr) | ty (n:String)
 deriving DecidableEq
def RelV:V->Value->Prop
 | .non,u=>u=ck
 | .bl b,u=>u=cV b
 | .int i,u=>∃ t,u=c6 i t
 | .str x,u=>∃ t,u=e9 x t
 | .byt b,u=>∃ t,u=Value.bytes b t
 | .flt b,u=>∃ t,u=Value.float b t
 | .ref a,u=>u=bQ a
 | .ty n,u=>u=fD n
abbrev Vals:List V->List Value->Prop:=Paired RelV
variable {xs:List V} {us:List Value}
theorem Vals.length (r:Vals xs us):xs.length=us.length:=fB r
theorem Vals.get:∀ {xs:List V} {us:List Value} {i:Nat} {x:V},Vals xs us->xs[i]?=some x->∃ u,us[i]?=some u/\RelV x u
 | _,_,_,_,.nil,e=>by simp at e
 | _,_,0,_,.cons r _,e=>by simp at e; subst e; exact ⟨_,rfl,r⟩
 | _,_,i+1,x,.cons _ t,e=>by
  obtain ⟨u,h1,h2⟩:=Vals.get (i:=i) (x:=x) t (by simpa using e)
  exact ⟨u,by simpa using h1,h2⟩
variable {u:Value}
theorem Vals.set {x:V} (r:RelV x u):∀ {xs:List V} {us:List Value} (i:Nat),Vals xs us->Vals (xs.set i x) (us.set i u)
 | _,_,_,.nil=>.nil
 | _,_,0,.cons _ t=>.cons r t
 | _,_,i+1,.cons q t=>.cons q (Vals.set r i t)
theorem Vals.append:∀ {xs ys:List V} {us ws:List Value},Vals xs us->Vals ys ws->Vals (xs++ys) (us++ws)
 | _,_,_,_,.nil,s=>s
 | _,_,_,_,.cons r t,s=>.cons r (Vals.append t s)
theorem Vals.none_of:∀ {xs:List V} {us:List Value} {i:Nat},Vals xs us->xs[i]?=none->us[i]?=none:=fun {xs us i} r e=>by
 have h1:=r.length
 have h2:xs.length<=i:=cg.mp e
 exact cg.mpr (by omega)
def RelO:Option V->Option Value->Prop
 | some v,some u=>RelV v u
 | none,none=>True
 | _,_=>False
def KV {κ:Type}:List (κ×V)->List (κ×Value)->Prop:=Paired fun (p:κ×V) (q:κ×Value)=>p.1=q.1/\RelV p.2 q.2
noncomputable def kV:Key->V
 | .inl i=>.int i
 | .inr x=>.str x
inductive HO where
 /-- a list -/
 | lst (xs:List V)
 /-- a tuple (never changes) -/
 | tup (xs:List V)
 /-- a dict whose keys are ints and texts; one whose keys are tuples of ints and texts (the empty one is both) -/
 | dK (kvs:List (Key×V)) | dT (kvs:List (List Key×V))
 /-- a set of ints: its members,its size -/
 | set (S:Int->Bool) (n:Nat)
 /-- an instance of the class at C,its dict at dx,its attributes -/
 | ins (C dx:Addr) (fs:List (Str×V))
 /-- the dict of the instance at x -/
 | own (x:Addr)
 /-- the dict of an exception -/
 | xd (fs:List (Str×V))
 /-- a bound method,f of x -/
 | met (f x:Addr)
 /-- a range object lo,lo+1,.. below hi -/
 | rng (lo hi:Int)
 /-- a thing that is known to the object (the script; a dict while a loop walks it): read,never written while it is so -/
 | frz (o:Obj) (u:HO)
 /-- a code object's table -/
 | tbl (ps:Array Value)
 /-- any other thing,by what is true of its one object (a def of one's own: SetO a S n:=HO.ext fun h=>..) -/
 | ext (φ:Heap->Prop)
abbrev Hp:=Addr->Option HO
noncomputable def upd (H:Hp) (a:Addr) (o:HO):Hp:=fun b=>if b=a then some o else H b
variable {H:Hp} {a:Addr} {o:HO}
theorem qm:upd H a o a=some o:=by unfold upd; rw [if_pos rfl]
variable {b:Addr}
theorem qr (h:b≠a):upd H a o b=H b:=by unfold upd; rw [if_neg h]
theorem qx (h:H a=some o) (h':H b=none):a≠b:=by
 intro e; subst e; rw [h] at h'; cases h'
section
variable (P:Program) (w:World)
def ObjOk (H:Hp) (h:Heap) (a:Addr):HO->Prop
 | .lst xs=>xs.length<=sizeLine/\∃ (its:List Value) (n:Nat),Vals xs its/\h.get? a=some { cls:=.type "list",data:=.seq its.toArray n }
 | .tup xs=>(xs.length<=sizeLine/\∃ o,h.get? a=some o/\o.dict=none)/\∃ its:List Value,Vals xs its/\IsTup h a its.toArray
 | .dK kvs=>kvs.length<=sizeLine/\(a == sysModules)=false/\∃ vs,KV kvs vs/\h.DictOf (jh P w) a vs
 | .dT kvs=>kvs.length<=sizeLine/\(a == sysModules)=false/\∃ xs:List (List Key×Addr×Value),
   Paired (fun (p:List Key×V) (q:List Key×Addr×Value)=>p.1=q.1/\H q.2.1=some (.tup (p.1.map kV))/\RelV p.2 q.2.2) kvs xs /\
   ∃ o es ep,h.get? a=some o/\o.ExactDict/\o.data=.dict es ep/\es.toList=xs.map (entryOfKey (tupleKind (jh P w)))/\(xs.map (·.1)).Nodup
 | .set S n=>h.SetOf (intKind P w) a S n
 | .ins C dx fs=>H dx=some (.own a)/\fs.length<=1000/\dx≠a/\h.get? a=some (cu C dx) /\
   ∃ mA,h.Ns1 dx mA/\(∀ f,RelO (fs.lookup f) (mA f))/\fG mA (fs.map (·.1))
 | .own _=>∃ o,h.get? a=some o
 | .xd fs=>∃ mA,h.Ns1 a mA/\∀ f,RelO (fs.lookup f) (mA f)
 | .rng lo hi=>∃ t u v,h.get? a=some { cls:=.type "range",data:=.fields #[.int lo t,.int hi u,.int 1 v] }
 | .frz o u=>h.get? a=some o/\ObjOk H h a u
 | .tbl ps=>h.get? a=some { cls:=.none,data:=.fields ps }
 | .met f x=>h.get? a=some (eU (.ref f) (.ref x))
 | .ext φ=>φ h/\(∃ o,h.get? a=some o)/\∀ h1 h2:Heap,φ h1->(∀ o,h1.get? a=some o->h2.get? a=some o)->φ h2
def HOk (H:Hp) (h:Heap):Prop:=∀ a o,H a=some o->ObjOk P w H h a o
end
variable {P:Program} {w:World} {H':Hp} {h h':Heap} {α:Type}
section
theorem ObjOk.lt (x:ObjOk P w H h a o):a < h.objs.size:=by
 cases o with
 | lst xs=>obtain ⟨_,_,_,_,e⟩:=x; exact ap e
 | tup xs=>obtain ⟨_,_,_,p⟩:=x; exact p.lt
 | dK kvs=>obtain ⟨_,_,_,_,o,_,_,e,_⟩:=x; exact ap e
 | dT kvs=>obtain ⟨_,_,_,_,o,_,_,e,_⟩:=x; exact ap e
 | set S n=>obtain ⟨o,_,_,_,e,_⟩:=x; exact ap e
 | ins C dx fs=>obtain ⟨_,_,_,e,_⟩:=x; exact ap e
 | own y=>obtain ⟨_,e⟩:=x; exact ap e
 | xd fs=>obtain ⟨_,⟨_,_,_,e,_⟩,_⟩:=x; exact ap e
 | rng lo hi=>obtain ⟨_,_,_,e⟩:=x; exact ap e
 | frz ob u=>obtain ⟨e,_⟩:=x; exact ap e
 | tbl ps=>exact ap (show h.get? a=some _ from x)
 | met f y=>exact ap (show h.get? a=some _ from x)
 | ext φ=>obtain ⟨_,⟨_,e⟩,_⟩:=x; exact ap e
theorem Paired.mapP {β:Type} {F G:α->β->Prop}:∀ {l₁:List α} {l₂:List β},Paired F l₁ l₂->(∀ a b,F a b->G a b)->Paired G l₁ l₂
 | _,_,.nil,_=>.nil
 | _,_,.cons r t,f=>.cons (f _ _ r) (Paired.mapP t f)
theorem ObjOk.stay (x:ObjOk P w H h a o) (k:∀ b u,(b=a\/H b=some (.own a))->h.get? b=some u->h'.get? b=some u)
  (ho:∀ b,H b=some (.own a)->H' b=some (.own a)) (ht:∀ b xs,H b=some (.tup xs)->H' b=some (.tup xs)):ObjOk P w H' h' a o:=by
 induction o with
 | lst xs=>obtain ⟨z,its,n,r,e⟩:=x; exact ⟨z,its,n,r,k _ _ (.inl rfl) e⟩
 | tup xs=>obtain ⟨⟨z,o2,e2,d2⟩,its,r,ob,e,c⟩:=x; exact ⟨⟨z,o2,k _ _ (.inl rfl) e2,d2⟩,its,r,ob,k _ _ (.inl rfl) e,c⟩
 | dK kvs=>obtain ⟨z,y,vs,r,ob,es,ep,e,c⟩:=x; exact ⟨z,y,vs,r,ob,es,ep,k _ _ (.inl rfl) e,c⟩
 | dT kvs=>
  obtain ⟨z,y,xs,r,ob,es,ep,e,c⟩:=x
  exact ⟨z,y,xs,Paired.mapP r fun p q z=>⟨z.1,ht _ _ z.2.1,z.2.2⟩,ob,es,ep,k _ _ (.inl rfl) e,c⟩
 | set S n=>obtain ⟨ob,es,ep,t,e,c⟩:=x; exact ⟨ob,es,ep,t,k _ _ (.inl rfl) e,c⟩
 | ins C dx fs=>
  obtain ⟨d,z,ne,e,mA,⟨od,es,ep,e2,c⟩,r⟩:=x
  exact ⟨ho _ d,z,ne,k _ _ (.inl rfl) e,mA,⟨od,es,ep,k _ _ (.inr d) e2,c⟩,r⟩
 | own y=>obtain ⟨ob,e⟩:=x; exact ⟨ob,k _ _ (.inl rfl) e⟩
 | xd fs=>obtain ⟨mA,⟨od,es,ep,e,c⟩,r⟩:=x; exact ⟨mA,⟨od,es,ep,k _ _ (.inl rfl) e,c⟩,r⟩
 | rng lo hi=>obtain ⟨t,u,v,e⟩:=x; exact ⟨t,u,v,k _ _ (.inl rfl) e⟩
 | frz ob u ih=>obtain ⟨e,q⟩:=x; exact ⟨k _ _ (.inl rfl) e,ih q⟩
 | tbl ps=>
  have e:h.get? a=some { cls:=.none,data:=.fields ps }:=x
  show h'.get? a=some { cls:=.none,data:=.fields ps }
  exact k a _ (.inl rfl) e
 | met f y=>
  have e:h.get? a=some (eU (.ref f) (.ref y)):=x
  show h'.get? a=some (eU (.ref f) (.ref y))
  exact k a _ (.inl rfl) e
 | ext φ=>obtain ⟨p,⟨o,e⟩,st⟩:=x; exact ⟨st _ _ p fun o q=>k _ _ (.inl rfl) q,⟨o,k _ _ (.inl rfl) e⟩,st⟩
theorem HOk.lt (x:HOk P w H h) (e:H a=some o):a < h.objs.size:=(x a o e).lt
theorem HOk.fresh (x:HOk P w H h) (e:h.objs.size<=a):H a=none:=by
 cases q:H a with
 | none=>rfl
 | some u=>exact absurd (aO (x.lt q) e) (bu _)
theorem HOk.kept (x:HOk P w H h) (k:∀ b u,h.get? b=some u->h'.get? b=some u):HOk P w H h':=fun a o e=>
 (x a o e).stay (fun b u _ q=>k b u q) (fun _ q=>q) fun _ _ q=>q
theorem HOk.laid (x:HOk P w H h) (k:∀ b u,h.get? b=some u->h'.get? b=some u) (hp:h.objs.size<=a) (new:ObjOk P w (upd H a o) h' a o):HOk P w (upd H a o) h':=fun b u e=>by
 have hn:=x.fresh hp
 by_cases hb:b=a
 ·subst hb; rw [qm] at e; cases e; exact new
 ·rw [qr hb] at e
  exact (x b u e).stay (fun c v _ q=>k c v q) (fun c q=>by rw [qr (qx q hn)]; exact q) fun c xs q=>by rw [qr (qx q hn)]; exact q
end
def Rd (H:Hp) (a:Addr) (u:HO):Prop:=H a=some u\/∃ o,H a=some (.frz o u)
theorem Rd.ok {u:HO} (r:Rd H a u) (x:HOk P w H h):ObjOk P w H h a u:=by
 rcases r with r | ⟨o,r⟩
 ·exact x a u r
 ·obtain ⟨_,q⟩:=x a _ r
  exact q
def Mut:Option HO->Prop
 | some (.lst _)=>True
 | some (.dK _)=>True
 | some (.dT _)=>True
 | some (.set _ _)=>True
 | some (.ins _ _ _)=>True
 | some (.ext _)=>True
 | _=>False
section
variable {x e:Addr} {o':HO}
theorem HOk.write (ok:HOk P w H h) (mu:Mut (H x)) (he:e=x\/H e=some (.own x)) (k:∀ b u,b≠e->h.get? b=some u->h'.get? b=some u) (heo:∃ u,h'.get? e=some u)
  (new:ObjOk P w (upd H x o') h' x o'):HOk P w (upd H x o') h':=fun b u q=>by
 have nown:∀ c y,H c=some (.own y)->c≠x:=fun c y r z=>by subst z; rw [r] at mu; exact mu
 have ntup:∀ c xs,H c=some (.tup xs)->c≠x:=fun c xs r z=>by subst z; rw [r] at mu; exact mu
 by_cases hb:b=x
 ·subst hb; rw [qm] at q; cases q; exact new
 ·rw [qr hb] at q
  by_cases hbe:b=e
  ·have q':H b=some (.own x):=by
    rcases he with z | z
    ·exact absurd (hbe.trans z) hb
    ·rw [hbe]; exact z
   rw [q] at q'; cases q'
   obtain ⟨v,hv⟩:=heo
   exact ⟨v,by rw [hbe]; exact hv⟩
  ·refine (ok b u q).stay (fun c v hc r=>k c v ?_ r) (fun c r=>by rw [qr (nown c b r)]; exact r) fun c xs r=>by rw [qr (ntup c xs r)]; exact r
   rcases hc with rfl | hc
   ·exact hbe
   ·rintro rfl
    rcases he with z | z
    ·exact nown c b hc z
    ·rw [hc] at z; cases z; exact hb rfl
end
structure Un (fs ex:List Addr) (H H':Hp) (h h':Heap):Prop where
 keep:∀ b o,h.get? b=some o->H b=none->b∉fs->b∉ex->h'.get? b=some o
 slot:∀ b o,h.get? b=some o->H b=none->b∈fs->b∉ex->∃ sl,h'.get? b=some { o with slots:=sl }
 free:∀ b o,h.get? b=some o->H b=none->b∉ex->H' b=none
 there:∀ b o,h.get? b=some o->b∉ex->∃ o',h'.get? b=some o'
 tups:∀ b xs,H b=some (.tup xs)->H' b=some (.tup xs)
 frzs:∀ b o u,H b=some (.frz o u)->H' b=some (.frz o u)
 tbls:∀ b ps,H b=some (.tbl ps)->∃ more,H' b=some (.tbl (ps++more))
section
variable {fs fs' ex ex':List Addr} {H1 H2:Hp} {h1 h2:Heap} {x e:Addr}
theorem Un.any (u:Un fs ex H H1 h h1) {ob:Obj} (q:h.get? b=some ob) (n:H b=none) (hx:b∉ex):∃ sl,h1.get? b=some { ob with slots:=sl }:=by
 by_cases hb:b∈fs
 ·exact u.slot b ob q n hb hx
 ·exact ⟨ob.slots,u.keep b ob q n hb hx⟩
theorem Un.kept (k:∀ b u,h.get? b=some u->h'.get? b=some u):Un fs ex H H h h':=
 ⟨fun b ob q _ _ _=>k b ob q,fun b ob q _ _ _=>⟨ob.slots,k b ob q⟩,fun _ _ _ n _=>n,fun b ob q _=>⟨ob,k b ob q⟩,fun _ _ q=>q,fun _ _ _ q=>q,fun _ ps q=>⟨#[],by rw [q]; simp⟩⟩
theorem Un.refl:Un fs ex H H h h:=Un.kept fun _ _ q=>q
theorem Un.laid (k:∀ b u,h.get? b=some u->h'.get? b=some u) (hp:h.objs.size<=a) (hn:H a=none):Un fs ex H (upd H a o) h h' where
 keep:=fun b u q _ _ _=>k b u q
 slot:=fun b u q _ _ _=>⟨u.slots,k b u q⟩
 free:=fun b u q n _=>by rw [qr (ay (aO (ap q) hp))]; exact n
 there:=fun b u q _=>⟨u,k b u q⟩
 tups:=fun b xs q=>by rw [qr (qx q hn)]; exact q
 frzs:=fun b u xs q=>by rw [qr (qx q hn)]; exact q
 tbls:=fun b ps q=>⟨#[],by rw [qr (qx q hn),q]; simp⟩
theorem Un.write (mu:Mut (H x)) (he:e=x\/H e=some (.own x)) (k:∀ b u,b≠e->h.get? b=some u->h'.get? b=some u) (heo:∃ u,h'.get? e=some u):Un fs ex H (upd H x o) h h':=by
 have hx:∀ b,H b=none->b≠x:=fun b n z=>by subst z; rw [n] at mu; exact mu
 have hb:∀ b,H b=none->b≠e:=fun b n z=>by
  subst z
  rcases he with r | r
  ·exact hx b n r
  ·rw [n] at r; cases r
 have hm:∀ b u,H b=some u->¬Mut (some u)->b≠x:=fun b u q nm z=>by subst z; rw [q] at mu; exact nm mu
 refine ⟨fun b u q n _ _=>k b u (hb b n) q,fun b u q n _ _=>⟨u.slots,k b u (hb b n) q⟩,fun b u q n _=>by rw [qr (hx b n)]; exact n,fun b u q _=>?_,
  fun b xs q=>by rw [qr (hm b _ q fun z=>z)]; exact q,fun b u xs q=>by rw [qr (hm b _ q fun z=>z)]; exact q,fun b ps q=>⟨#[],by rw [qr (hm b _ q fun z=>z),q]; simp⟩⟩
 by_cases hbe:b=e
 ·subst hbe; exact heo
 ·exact ⟨u,k b u hbe q⟩
end
noncomputable def trk (h:Heap) (H:Hp):List Addr:=(bg h.objs.size).filter fun a=>(H a).isSome
noncomputable def Zw (h:Heap) (H:Hp):Heap:=bj h (trk h H)
theorem UD (h:Heap) (H:Hp):(Zw h H).objs.size=h.objs.size:=PySem.W.hideAll_size _ _
theorem Zx {o:Obj} (e:h.get? b=some o) (n:H b=none):(Zw h H).get? b=some o:=
 cP _ e fun hm=>by
  have q:(H b).isSome=true:=(eI.mp hm).2
  rw [n] at q; simp at q
theorem qbc {o:Obj} (e:(Zw h H).get? b=some o):h.get? b=some o/\H b=none:=by
 have e':h.get? b=some o:=dO (trk h H) e
 refine ⟨e',?_⟩
 cases q:H b with
 | none=>rfl
 | some x=>
  have hm:b∈trk h H:=eI.mpr ⟨cB.mpr (ap e'),by simp [q]⟩
  have z:(Zw h H).get? b=none:=cJ (trk h H) hm
  rw [z] at e; cases e
noncomputable def qbd (g h:Heap) (L:Addr):List (Addr×Obj):=(bg h.objs.size).filterMap fun a=>if a=L\/(g.get? a).isSome=true then none else (h.get? a).map fun o=>(a,o)
noncomputable def rest (g h:Heap) (L d:Addr):List (Addr×Obj):=(qbd g h L).filter fun p=>decide (p.1≠d)
structure Mod (K:Frag) (mg:Str->Option Value) (base:Heap):Prop where
 kin:K.In base
 glob:base.Ns mainGlobals mg
 blt:∃ mb,base.Ns builtinsNs mb/\∀ x:Str,x ≠ "__name__"->mb x=bootBuiltins x
 nolimit:base.NoLimit
structure Cx where
 prog:Program
 w:World
 K:Frag
 mg:Str->Option Value
 base:Heap
 A:Around
 N:List Str
 s₀:Shared
 H₀:Hp
 env:Env
 outer:List Env
 stack:List Env
 ex:List Addr
 fn:Str->Bool
 calm:Bool
 pn:List (Addr×Obj)
 xe:Value->Shared->Prop
noncomputable def frs (l:List Env):List Addr:=l.filterMap (·.frame)
abbrev Cx.fs (X:Cx):List Addr:=frs X.outer
def Vis (sc:Scope) (x:Str):Prop:=sc.names.lookup x=some .local\/sc.names.lookup x=some .cell\/sc.names.lookup x=some .free
def Loc (sc:Scope) (x:Str):Prop:=sc.names.lookup x=some .local\/sc.names.lookup x=some .cell
def WQ (env:Env) (h:Heap) (m:Str->Option Value) (x:Str) (u:Value):Prop:=
 (env.kindOf x=some .local/\m x=some u)\/((env.kindOf x=some .cell\/env.kindOf x=some .free)/\∃ c,env.cells.lookup x=some c/\h.IsCell c (some u))
structure Cx.Ok (X:Cx):Prop where
 mod:Mod X.K X.mg X.base
 kind:X.env.scope.kind=.function
 glob:X.env.globals=mainGlobals
 blt:X.env.builtins=builtinsNs
 above:X.s₀.heap.objs.size<=X.env.locals
 inj:∀ x y c,X.env.cells.lookup x=some c->X.env.cells.lookup y=some c->x=y
 has:∀ x,(X.env.kindOf x=some .cell\/X.env.kindOf x=some .free)->∃ c,X.env.cells.lookup x=some c
 cab:∀ x c,X.fn x=true->X.env.cells.lookup x=some c->X.s₀.heap.objs.size<=c
 hd:X.calm=true->X.A.handled=none
 frames:X.A.frames=some X.stack
 stk:X.stack=X.outer\/(X.stack=X.env::X.outer/\X.env.frame=some X.env.locals)
 exf:∀ b∈X.ex,b≠X.env.locals/\∀ x c,X.env.cells.lookup x=some c->c≠b
 bs:∀ b o,X.base.get? b=some o->X.s₀.heap.get? b=some o/\X.H₀ b=none
 bsz:X.base.objs.size<=X.s₀.heap.objs.size
 noex:∀ b o,X.base.get? b=some o->b∉X.ex
 exfs:∀ b∈X.ex,b∉X.fs
 funs:X.s₀.heap.FunFrames X.base X.outer
 frf:∀ b∈X.fs,X.H₀ b=none
structure Inv (X:Cx) (pins:List (Addr×Obj)) (σ:List (Option V)) (H:Hp) (s:Shared):Prop where
 ok:X.Ok
 os:s.os=X.s₀.os
 bare:AllBare s.gens
 base:Un X.fs X.ex X.H₀ H X.s₀.heap s.heap
 loc:∃ m,s.heap.Ns X.env.locals m/\∀ (i:Nat) (x:Str) (v:V),X.N[i]?=some x->σ[i]?=some (some v)->Vis X.env.scope x->∃ u,RelV v u/\WQ X.env s.heap m x u
 cell:∀ x c,X.env.cells.lookup x=some c->∃ v,s.heap.IsCell c v
 free:H X.env.locals=none
 freeC:∀ x c,X.env.cells.lookup x=some c->H c=none
 pin:∀ p∈X.pn++pins,s.heap.get? p.1=some p.2/\H p.1=none/\p.1≠X.env.locals/\p.1∉X.fs/\∀ v,p.2.data≠.cell v
 hok:HOk X.prog X.w H s.heap
 len:σ.length=X.N.length
variable {x:Str} {X:Cx} {pins:List (Addr×Obj)} {s s':Shared} {t' i j:Nat} {ch:List Addr} {it:Addr} {v:V}
section
variable {σ:List (Option V)}
theorem Cx.Ok.nofr (ok:X.Ok) {o:Obj} (e:X.base.get? b=some o):b∉X.fs:=fun hb=>by
 have:=(ok.funs.mem hb).1
 rw [e] at this; cases this
theorem Inv.bs (I:Inv X pins σ H s):∀ b o,X.base.get? b=some o->s.heap.get? b=some o/\H b=none:=fun b o e=>
 ⟨I.base.keep b o (I.ok.bs b o e).1 (I.ok.bs b o e).2 (I.ok.nofr e) (I.ok.noex b o e),I.base.free b o (I.ok.bs b o e).1 (I.ok.bs b o e).2 (I.ok.noex b o e)⟩
theorem Inv.bk (I:Inv X pins σ H s):∀ b o,X.base.get? b=some o->s.heap.get? b=some o:=fun b o e=>(I.bs b o e).1
theorem Inv.mod (I:Inv X pins σ H s):Mod X.K X.mg X.base:=I.ok.mod
theorem Inv.kIn (I:Inv X pins σ H s):X.K.In s.heap:=I.ok.mod.kin.keeps I.bk
theorem Inv.nolimit (I:Inv X pins σ H s):s.heap.NoLimit:=I.ok.mod.nolimit.keeps I.bk
theorem Inv.fr (I:Inv X pins σ H s):∃ m,Fr X.base X.env.locals s.heap m:=
 let ⟨m,hn,_⟩:=I.loc
 ⟨m,hn,I.bk,bW I.ok.bsz I.ok.above⟩
theorem Inv.lt (I:Inv X pins σ H s):X.env.locals < s.heap.objs.size:=let ⟨_,hn,_⟩:=I.loc; hn.lt
theorem Inv.sz (I:Inv X pins σ H s):X.s₀.heap.objs.size<=s.heap.objs.size:=bW I.ok.above (dt I.lt)
theorem Inv.nofs (I:Inv X pins σ H s) (h:s.heap.objs.size<=a):a∉X.fs:=fun hb=>by
 obtain ⟨_,o,ho,_⟩:=I.ok.funs.mem hb
 exact absurd (aO (ap ho) (bW I.sz h)) (bu _)
theorem Inv.cne (I:Inv X pins σ H s):∀ x c,X.env.cells.lookup x=some c->c≠X.env.locals:=fun x c e z=>by
 obtain ⟨v,o,ho,hd⟩:=I.cell x c e
 obtain ⟨m,⟨o',es,ep,ho',hd',_⟩,_⟩:=I.loc
 rw [z,ho'] at ho; cases ho; rw [hd'] at hd; cases hd
theorem Inv.funs (I:Inv X pins σ H s):s.heap.FunFrames X.base X.outer:=by
 have all:∀ (l:List Env),(∀ b∈frs l,b∈X.fs)->X.s₀.heap.FunFrames X.base l->s.heap.FunFrames X.base l:=by
  intro l
  induction l with
  | nil=>intro _ _; trivial
  | cons env r ih=>
   intro hs hl
   obtain ⟨hk,⟨L,o,hf,hn,ho,hd⟩,hr⟩:=hl
   have hL:L∈X.fs:=hs L (by unfold frs; rw [bz,hf]; exact aw)
   obtain ⟨sl,e⟩:=I.base.slot L o ho (I.ok.frf L hL) hL fun z=>I.ok.exfs L z hL
   exact ⟨hk,⟨L,_,hf,hn,e,hd⟩,ih (fun b hb=>hs b (by unfold frs; rw [bz,hf]; exact af _ hb)) hr⟩
 exact all X.outer (fun _ hb=>hb) I.ok.funs
theorem Inv.stack (I:Inv X pins σ H s):s.heap.FunFrames X.base X.stack:=by
 rcases I.ok.stk with e | ⟨e,hf⟩
 ·rw [e]; exact I.funs
 ·rw [e]
  obtain ⟨m,hn,_⟩:=I.loc
  refine .cons (by rw [I.ok.kind]; decide) hf hn ?_ I.funs
  exact Heap.get?_none_of_le (bW I.ok.bsz I.ok.above)
theorem Inv.stkSub (I:Inv X pins σ H s):∀ b∈frs X.stack,b∈X.env.locals::X.fs:=fun b hb=>by
 rcases I.ok.stk with e | ⟨e,hf⟩
 ·rw [e] at hb; exact af _ hb
 ·rw [e] at hb
  unfold frs at hb
  rw [bz,hf] at hb
  exact hb
theorem Inv.stkFree (I:Inv X pins σ H s):∀ b∈frs X.stack,H b=none:=fun b hb=>by
 rcases ac.mp (I.stkSub b hb) with e | hb
 ·rw [e]; exact I.free
 ·obtain ⟨_,o,ho,_⟩:=I.ok.funs.mem hb
  exact I.base.free b o ho (I.ok.frf b hb) fun z=>I.ok.exfs b z hb
theorem Inv.step {g':Array GenState} {t':Nat} {d':Drawn} {ch:List Addr} (I:Inv X pins σ H s)
  (hch:∀ b∈ch,(b∈X.ex\/X.s₀.heap.objs.size<=b)/\b≠X.env.locals/\(∀ x c,X.env.cells.lookup x=some c->c≠b)/\∀ p∈X.pn++pins,p.1≠b)
  (keep:∀ b o,b≠X.env.locals->b∉X.fs->b∉ch->s.heap.get? b=some o->H b=none->h'.get? b=some o)
  (slot:∀ b o,b≠X.env.locals->b∈X.fs->b∉ch->s.heap.get? b=some o->H b=none->∃ sl,h'.get? b=some { o with slots:=sl }) (free:∀ b o,b∉ch->s.heap.get? b=some o->H b=none->H' b=none)
  (there:∀ b o,b∉ch->s.heap.get? b=some o->∃ o',h'.get? b=some o')
  (tups:∀ b xs,H b=some (.tup xs)->H' b=some (.tup xs)) (frzs:∀ b o u,H b=some (.frz o u)->H' b=some (.frz o u)) (tbls:∀ b ps,H b=some (.tbl ps)->∃ more,H' b=some (.tbl (ps++more)))
  (ns:∀ m,s.heap.Ns X.env.locals m->h'.Ns X.env.locals m) (hok:HOk X.prog X.w H' h') (hg:AllBare g') :
  Inv X pins σ H' { s with heap:=h',gens:=g',drawn:=d',toks:=t' }:=by
 have neL:∀ b o,X.s₀.heap.get? b=some o->b≠X.env.locals:=fun b o e=>ay (aO (ap e) I.ok.above)
 have neC:∀ b o,X.s₀.heap.get? b=some o->b∉X.ex->b∉ch:=fun b o e hx hb=>by
  rcases (hch b hb).1 with z | z
  ·exact hx z
  ·exact absurd (aO (ap e) z) (bu _)
 have cellK:∀ x c,X.env.cells.lookup x=some c->∀ v,s.heap.IsCell c v->h'.IsCell c v:=fun x c e v ⟨o,ho,hd⟩=>by
  have nch:c∉ch:=fun z=>(hch c z).2.2.1 x c e rfl
  by_cases hc:c∈X.fs
  ·obtain ⟨sl,q⟩:=slot c o (I.cne x c e) hc nch ho (I.freeC x c e)
   exact ⟨_,q,hd⟩
  ·exact ⟨o,keep c o (I.cne x c e) hc nch ho (I.freeC x c e),hd⟩
 refine ⟨I.ok,I.os,hg,⟨fun b o e n hb hx=>?_,fun b o e n hb hx=>?_,fun b o e n hx=>?_,fun b o e hx=>?_,fun b xs e=>tups b xs (I.base.tups b xs e),fun b o xs e=>frzs b o xs (I.base.frzs b o xs e),fun b ps e=>?_⟩,?_,fun x c e=>?_,?_,fun x c e=>?_,fun p hp=>?_,hok,I.len⟩
 ·exact keep b o (neL b o e) hb (neC b o e hx) (I.base.keep b o e n hb hx) (I.base.free b o e n hx)
 ·obtain ⟨sl,e1⟩:=I.base.slot b o e n hb hx
  obtain ⟨sl',e2⟩:=slot b _ (neL b o e) hb (neC b o e hx) e1 (I.base.free b o e n hx)
  exact ⟨sl',e2⟩
 ·obtain ⟨o',e1⟩:=I.base.there b o e hx
  exact free b o' (neC b o e hx) e1 (I.base.free b o e n hx)
 ·obtain ⟨o',e1⟩:=I.base.there b o e hx
  exact there b o' (neC b o e hx) e1
 ·obtain ⟨m1,e1⟩:=I.base.tbls b ps e
  obtain ⟨m2,e2⟩:=tbls b _ e1
  exact ⟨m1++m2,by rw [e2,Array.append_assoc]⟩
 ·obtain ⟨m,hn,hl⟩:=I.loc
  refine ⟨m,ns m hn,fun i x v e1 e2 e3=>?_⟩
  obtain ⟨u,r,l⟩:=hl i x v e1 e2 e3
  refine ⟨u,r,?_⟩
  rcases l with l | ⟨k,c,e,z⟩
  ·exact .inl l
  ·exact .inr ⟨k,c,e,cellK x c e _ z⟩
 ·obtain ⟨v,z⟩:=I.cell x c e
  exact ⟨v,cellK x c e v z⟩
 ·obtain ⟨m,⟨o,_,_,ho,_⟩,_⟩:=I.loc
  exact free _ o (fun z=>(hch _ z).2.1 rfl) ho I.free
 ·obtain ⟨v,o,ho,hd⟩:=I.cell x c e
  exact free c o (fun z=>(hch c z).2.2.1 x c e rfl) ho (I.freeC x c e)
 ·obtain ⟨e,n,ne,nf,d⟩:=I.pin p hp
  have nch:p.1∉ch:=fun z=>(hch p.1 z).2.2.2 p hp rfl
  exact ⟨keep p.1 p.2 ne nf nch e n,free p.1 p.2 nch e n,ne,nf,d⟩
theorem Inv.un (I:Inv X pins σ H s) (u:Un X.fs [] H H' s.heap h') (hok:HOk X.prog X.w H' h'):Inv X pins σ H' { s with heap:=h',toks:=t' }:=by
 obtain ⟨m,⟨o,es,ep,ho,r⟩,_⟩:=id I.loc
 obtain ⟨sl,hL⟩:=u.any ho I.free (by simp)
 exact I.step (g':=s.gens) (d':=s.drawn) (ch:=[]) (fun _ z=>nomatch z) (fun b o _ hb _ e n=>u.keep b o e n hb (by simp)) (fun b o _ hb _ e n=>u.slot b o e n hb (by simp)) (fun b o _ e n=>u.free b o e n (by simp)) (fun b o _ e=>u.there b o e (by simp)) u.tups u.frzs u.tbls (fun m' hm=>by
  obtain ⟨o',es',ep',ho',r'⟩:=hm
  rw [ho] at ho'; cases ho'
  exact ⟨_,es',ep',hL,r'⟩) hok I.bare
theorem Inv.call {g':Array GenState} {t':Nat} {d':Drawn} (I:Inv X pins σ H s) (u:Un (frs X.stack) ch H H' s.heap h') (hok:HOk X.prog X.w H' h') (hg:AllBare g')
  (hch:∀ b∈ch,(b∈X.ex\/X.s₀.heap.objs.size<=b)/\b≠X.env.locals/\(∀ x c,X.env.cells.lookup x=some c->c≠b)/\∀ p∈X.pn++pins,p.1≠b) :
  Inv X pins σ H' { s with heap:=h',gens:=g',drawn:=d',toks:=t' }:=by
 obtain ⟨m,⟨o,es,ep,ho,r⟩,_⟩:=id I.loc
 obtain ⟨sl,hL⟩:=u.any ho I.free fun z=>(hch _ z).2.1 rfl
 exact I.step (ch:=ch) hch (fun b o hL hb hc e n=>u.keep b o e n (fun z=>(ac.mp (I.stkSub b z)).elim hL hb) hc) (fun b o _ _ hc e n=>u.any e n hc) (fun b o hc e n=>u.free b o e n hc) (fun b o hc e=>u.there b o e hc) u.tups u.frzs u.tbls (fun m' hm=>by
  obtain ⟨o',es',ep',ho',r'⟩:=hm
  rw [ho] at ho'; cases ho'
  exact ⟨_,es',ep',hL,r'⟩) hok hg
theorem Inv.turned {t':Nat} (I:Inv X pins σ H s) (k:∀ b o,b≠it->s.heap.get? b=some o->h'.get? b=some o) (hn:H it=none) (hL:it≠X.env.locals)
  (h1:it∈X.ex\/X.s₀.heap.objs.size<=it) (h2:∀ x c,X.env.cells.lookup x=some c->c≠it) (h3:∀ p∈X.pn++pins,p.1≠it):Inv X pins σ H { s with heap:=h',toks:=t' }:=by
 have nit:∀ b u,H b=some u->b≠it:=fun b u e z=>by rw [z,hn] at e; cases e
 refine I.step (g':=s.gens) (d':=s.drawn) (ch:=[it]) (fun b hb=>?_) (fun b o _ _ hc e _=>k b o (fun z=>hc (by simp [z])) e) (fun b o _ _ hc e _=>⟨o.slots,k b o (fun z=>hc (by simp [z])) e⟩) (fun _ _ _ _ n=>n)
  (fun b o hc e=>⟨o,k b o (fun z=>hc (by simp [z])) e⟩) (fun _ _ e=>e) (fun _ _ _ e=>e) (fun b ps e=>⟨#[],by rw [e]; simp⟩) (fun m hm=>?_) (fun b u e=>?_) I.bare
 ·have e:b=it:=by simpa using hb
  subst e
  exact ⟨h1,hL,h2,h3⟩
 ·obtain ⟨o,es,ep,ho,r⟩:=hm
  exact ⟨o,es,ep,k _ o (aX hL) ho,r⟩
 ·refine (I.hok b u e).stay (fun c v hc q=>k c v ?_ q) (fun _ q=>q) fun _ _ q=>q
  rcases hc with z | z
  ·rw [z]; exact nit b u e
  ·exact nit c _ z
theorem Inv.tok (I:Inv X pins σ H s) (t:Nat):Inv X pins σ H { s with toks:=t }:=I.un (h':=s.heap) (t':=t) Un.refl I.hok
theorem Inv.kept (I:Inv X pins σ H s) (k:∀ b u,s.heap.get? b=some u->h'.get? b=some u):Inv X pins σ H { s with heap:=h',toks:=t' }:=I.un (Un.kept k) (I.hok.kept k)
theorem Inv.laid {t':Nat} (I:Inv X pins σ H s) (k:∀ b u,s.heap.get? b=some u->h'.get? b=some u) (hp:s.heap.objs.size<=a) (new:ObjOk X.prog X.w (upd H a o) h' a o) :
  Inv X pins σ (upd H a o) { s with heap:=h',toks:=t' }:=I.un (Un.laid k hp (I.hok.fresh hp)) (I.hok.laid k hp new)
theorem Inv.write {x e:Addr} {o:HO} {t':Nat} (I:Inv X pins σ H s) (mu:Mut (H x)) (he:e=x\/H e=some (.own x)) (k:∀ b u,b≠e->s.heap.get? b=some u->h'.get? b=some u) (heo:∃ u,h'.get? e=some u)
  (new:ObjOk X.prog X.w (upd H x o) h' x o):Inv X pins σ (upd H x o) { s with heap:=h',toks:=t' }:=I.un (Un.write mu he k heo) (I.hok.write mu he k heo new)
theorem Inv.weak {σ':List (Option V)} (I:Inv X pins σ H s) (hl:σ'.length=σ.length) (w:∀ (i:Nat) v,σ'[i]?=some (some v)->σ[i]?=some (some v)):Inv X pins σ' H s:=
 ⟨I.ok,I.os,I.bare,I.base,let ⟨m,hn,hl'⟩:=I.loc; ⟨m,hn,fun i x v e1 e2 e3=>hl' i x v e1 (w i v e2) e3⟩,I.cell,I.free,I.freeC,I.pin,I.hok,hl.trans I.len⟩
theorem Inv.pins_of {pins':List (Addr×Obj)} (I:Inv X pins σ H s) (h:∀ p∈pins',s.heap.get? p.1=some p.2/\H p.1=none/\p.1≠X.env.locals/\p.1∉X.fs/\∀ v,p.2.data≠.cell v):Inv X pins' σ H s:=
 ⟨I.ok,I.os,I.bare,I.base,I.loc,I.cell,I.free,I.freeC,fun p hp=>(bc.mp hp).elim (fun z=>I.pin p (cm _ z)) (h p),I.hok,I.len⟩
theorem VH {N:List Str} (hN:N.Nodup) (a:N[i]?=some x) (b:N[j]?=some x):i=j:=by
 obtain ⟨h1,e1⟩:=aE.mp a
 obtain ⟨h2,e2⟩:=aE.mp b
 exact (ff hN).mp (e1.trans e2.symm)
theorem QN {M:Model} {A:Around} {E:Value->Shared->Prop} {Q:Unit->Shared->Prop} (I:Inv X pins σ H s) (hN:X.N.Nodup) (hi:X.N[i]?=some x) (hx:Loc X.env.scope x) (r:RelV v u)
  (h:∀ s',Inv X pins (σ.set i (some v)) H s'->(∃ a,bA a s.heap s'.heap/\(a=X.env.locals\/X.env.cells.lookup x=some a))->Q () s') (hf:X.fn x=true\/X.env.scope.names.lookup x=some .local:=by first | exact .inl rfl | exact .inr rfl | assumption):wpAny M A (storeName X.env x u) Q E s:=by
 obtain ⟨m,hn,hl⟩:=id I.loc
 have hcls:(X.env.scope.kind == .class||(X.env.scope.kind == .module&&X.env.locals != X.env.globals))=false:=by rw [I.ok.kind]; rfl
 have hiσ:i < σ.length:=by rw [I.len]; exact (aE.mp hi).1
 have cne:=I.cne
 have tracked:∀ {a:Addr} {h':Heap},(∃ o,s.heap.get? a=some o/\H a=none)->bA a s.heap h'->HOk X.prog X.w H h':=fun {a h'} ha hs b ob e=>by
  obtain ⟨_,_,hfree⟩:=ha
  refine (I.hok b ob e).stay (fun c w' hc q=>(hs.2 c ?_).trans q) (fun _ q=>q) fun _ _ q=>q
  rintro rfl
  rcases hc with rfl | hc
  ·rw [hfree] at e; cases e
  ·rw [hfree] at hc; cases hc
 rcases hx with hk | hk
 ·refine wpAny_storeName_local hk hn (fun h' hn' hs=>?_) hcls
  obtain ⟨oL,_,_,hoL,_⟩:=id hn
  refine h _ ⟨I.ok,I.os,I.bare,⟨fun b o e n hb hx=>?_,fun b o e n hb hx=>?_,I.base.free,fun b o e hx=>?_,I.base.tups,I.base.frzs,I.base.tbls⟩,⟨_,hn',fun j y v' e1 e2 e3=>?_⟩,fun y c e=>?_,I.free,I.freeC,fun p hp=>?_,tracked ⟨oL,hoL,I.free⟩ hs,by simpa using I.len⟩ ⟨_,hs,.inl rfl⟩
  ·exact (hs.2 b (ay (aO (ap e) I.ok.above))).trans (I.base.keep b o e n hb hx)
  ·obtain ⟨sl,e1⟩:=I.base.slot b o e n hb hx
   exact ⟨sl,(hs.2 b (ay (aO (ap e) I.ok.above))).trans e1⟩
  ·obtain ⟨o',e1⟩:=I.base.there b o e hx
   exact ⟨o',(hs.2 b (ay (aO (ap e) I.ok.above))).trans e1⟩
  ·by_cases hj:j=i
   ·subst hj
    rw [hi] at e1; cases e1
    rw [aF hiσ] at e2
    cases e2
    exact ⟨u,r,.inl ⟨hk,by simp⟩⟩
   ·rw [ad (aX hj)] at e2
    obtain ⟨u',r',q⟩:=hl j y v' e1 e2 e3
    refine ⟨u',r',?_⟩
    rcases q with ⟨k,e⟩ | ⟨k,c,e,z⟩
    ·refine .inl ⟨k,?_⟩
     have:y≠x:=fun e=>hj (VH hN e1 (e ▸ hi))
     simp [this,e]
    ·exact .inr ⟨k,c,e,z.sameBut hs (cne y c e)⟩
  ·obtain ⟨w',z⟩:=I.cell y c e
   exact ⟨w',z.sameBut hs (cne y c e)⟩
  ·obtain ⟨e,n,ne,nf,d⟩:=I.pin p hp
   exact ⟨(hs.2 p.1 ne).trans e,n,ne,nf,d⟩
 ·have hfn:X.fn x=true:=by
   rcases hf with z | z
   ·exact z
   ·rw [z] at hk; cases hk
  obtain ⟨c,hc⟩:=I.ok.has x (.inl hk)
  obtain ⟨w',z⟩:=I.cell x c hc
  refine wpAny_storeName_cell I.ok.kind hk hc z (fun h' hc' hs=>?_)
  obtain ⟨oc,hoc,hocd⟩:=id z
  refine h { s with heap:=h' } ⟨I.ok,I.os,I.bare,⟨fun b o e n hb hx=>?_,fun b o e n hb hx=>?_,I.base.free,fun b o e hx=>?_,I.base.tups,I.base.frzs,I.base.tbls⟩,⟨m,hn.sameBut hs (aX (cne x c hc)),fun j y v' e1 e2 e3=>?_⟩,fun y c' e=>?_,I.free,I.freeC,fun p hp=>?_,tracked ⟨oc,hoc,I.freeC x c hc⟩ hs,by simpa using I.len⟩ ⟨c,hs,.inr hc⟩
  ·exact (hs.2 b (ay (aO (ap e) (I.ok.cab x c hfn hc)))).trans (I.base.keep b o e n hb hx)
  ·obtain ⟨sl,e1⟩:=I.base.slot b o e n hb hx
   exact ⟨sl,(hs.2 b (ay (aO (ap e) (I.ok.cab x c hfn hc)))).trans e1⟩
  ·obtain ⟨o',e1⟩:=I.base.there b o e hx
   exact ⟨o',(hs.2 b (ay (aO (ap e) (I.ok.cab x c hfn hc)))).trans e1⟩
  ·by_cases hj:j=i
   ·subst hj
    rw [hi] at e1; cases e1
    rw [aF hiσ] at e2
    cases e2
    exact ⟨u,r,.inr ⟨.inl hk,c,hc,hc'⟩⟩
   ·rw [ad (aX hj)] at e2
    obtain ⟨u',r',q⟩:=hl j y v' e1 e2 e3
    refine ⟨u',r',?_⟩
    rcases q with q | ⟨k,c',e,z'⟩
    ·exact .inl q
    ·refine .inr ⟨k,c',e,z'.sameBut hs ?_⟩
     rintro rfl
     exact hj (VH hN e1 (I.ok.inj _ _ _ e hc ▸ hi))
  ·by_cases hcc:c'=c
   ·subst hcc; exact ⟨_,hc'⟩
   ·obtain ⟨w2,z2⟩:=I.cell y c' e
    exact ⟨w2,z2.sameBut hs hcc⟩
  ·obtain ⟨e,n,ne,nf,d⟩:=I.pin p hp
   refine ⟨(hs.2 p.1 ?_).trans e,n,ne,nf,d⟩
   intro q
   rw [q,hoc] at e
   have q':oc=p.2:=br.inj e
   exact d w' (by rw [<-q']; exact hocd)
theorem xi {M:Model} {A:Around} {E:Value->Shared->Prop} {Q:Unit->Shared->Prop} (I:Inv X pins σ H s) (hN:X.N.Nodup) (hi:X.N[i]?=some x) (hx:Loc X.env.scope x) (r:RelV v u)
  (h:∀ s',Inv X pins (σ.set i (some v)) H s'->Q () s') (hf:X.fn x=true\/X.env.scope.names.lookup x=some .local:=by first | exact .inl rfl | exact .inr rfl | assumption):wpAny M A (storeName X.env x u) Q E s:=
 QN I hN hi hx r (fun s' I' _=>h s' I') hf
theorem Inv.call' (I:Inv X pins σ H s) (ho:s'.os=s.os) (u:Un (frs X.stack) ch H H' s.heap s'.heap) (hok:HOk X.prog X.w H' s'.heap) (hg:AllBare s'.gens)
  (hch:∀ b∈ch,(b∈X.ex\/X.s₀.heap.objs.size<=b)/\b≠X.env.locals/\(∀ x c,X.env.cells.lookup x=some c->c≠b)/\∀ p∈X.pn++pins,p.1≠b):Inv X pins σ H' s':=by
 obtain ⟨h',g',d',t',o'⟩:=s'
 have e:o'=s.os:=ho
 subst e
 exact I.call (g':=g') (t':=t') (d':=d') u hok hg hch
end
abbrev XK:=Value->Option Addr->Hp->Prop
abbrev St:=List (Option V)
abbrev VK:=V->Hp->Prop
abbrev TE:=St->Hp->VK->Prop
abbrev TT:=St->Hp->(Bool->Hp->Prop)->Prop
abbrev TA:=St->Hp->(List V->Hp->Prop)->Prop
structure Ends where
 nx:St->Hp->Prop
 rt:VK
 bk:St->Hp->Prop:=fun _ _=>False
 ct:St->Hp->Prop:=fun _ _=>False
abbrev TS:=Ends->St->Hp->Prop
def EP (X:Cx) (pins:List (Addr×Obj)) (σ:St) (Q:VK) (u:Value) (s':Shared):Prop:=∃ v H',Inv X pins σ H' s'/\RelV v u/\Q v H'
def TP (X:Cx) (pins:List (Addr×Obj)) (σ:St) (Q:Bool->Hp->Prop) (b:Bool) (s':Shared):Prop:=∃ H',Inv X pins σ H' s'/\Q b H'
def AP (X:Cx) (pins:List (Addr×Obj)) (σ:St) (Q:List V->Hp->Prop) (us:List Value) (s':Shared):Prop:=∃ vs H',Inv X pins σ H' s'/\Vals vs us/\Q vs H'
def SP (X:Cx) (pins:List (Addr×Obj)) (D:Ends) (f:Flow) (s':Shared):Prop:=
 match f with
 | .next=>∃ σ' H',Inv X pins σ' H' s'/\D.nx σ' H'
 | .brk=>∃ σ' H',Inv X pins σ' H' s'/\D.bk σ' H'
 | .cont=>∃ σ' H',Inv X pins σ' H' s'/\D.ct σ' H'
 | .ret u=>∃ v σ' H',Inv X pins σ' H' s'/\RelV v u/\D.rt v H'
structure PE (X:Cx) (e:Expr) (t:TE):Prop where
 run:∀ (pins:List (Addr×Obj)) (s:Shared) (σ:St) (H:Hp) (Q:VK),Inv X pins σ H s->t σ H Q->wpAny (model X.prog X.w) X.A (eval e X.env) (EP X pins σ Q) X.xe s
instance {X:Cx} {e:Expr} {t:TE}:CoeFun (PE X e t) (fun _=>∀ (pins:List (Addr×Obj)) (s:Shared) (σ:St) (H:Hp) (Q:VK),Inv X pins σ H s->t σ H Q->wpAny (model X.prog X.w) X.A (eval e X.env) (EP X pins σ Q) X.xe s):=⟨fun h=>h.run⟩
structure PT (X:Cx) (e:Expr) (t:TT):Prop where
 run:∀ (pins:List (Addr×Obj)) (s:Shared) (σ:St) (H:Hp) (Q:Bool->Hp->Prop),Inv X pins σ H s->t σ H Q->wpAny (model X.prog X.w) X.A (isTrue e X.env (eval e X.env)) (TP X pins σ Q) X.xe s
instance {X:Cx} {e:Expr} {t:TT}:CoeFun (PT X e t) (fun _=>∀ (pins:List (Addr×Obj)) (s:Shared) (σ:St) (H:Hp) (Q:Bool->Hp->Prop),Inv X pins σ H s->t σ H Q->wpAny (model X.prog X.w) X.A (isTrue e X.env (eval e X.env)) (TP X pins σ Q) X.xe s):=⟨fun h=>h.run⟩
structure PW (X:Cx) (e:Expr) (t:TT):Prop where
 run:∀ (whole:Sem Value) (pins:List (Addr×Obj)) (s:Shared) (σ:St) (H:Hp) (Q:Bool->Hp->Prop),Inv X pins σ H s->t σ H Q->wpAny (model X.prog X.w) X.A (isTrue e X.env whole) (TP X pins σ Q) X.xe s
instance {X:Cx} {e:Expr} {t:TT}:CoeFun (PW X e t) (fun _=>∀ (whole:Sem Value) (pins:List (Addr×Obj)) (s:Shared) (σ:St) (H:Hp) (Q:Bool->Hp->Prop),Inv X pins σ H s->t σ H Q->wpAny (model X.prog X.w) X.A (isTrue e X.env whole) (TP X pins σ Q) X.xe s):=⟨fun h=>h.run⟩
variable {e:Expr}
theorem PW.pt {t:TT} (h:PW X e t):PT X e t:=⟨h.run _⟩
structure PA (X:Cx) (es:List Expr) (t:TA):Prop where
 run:∀ (pos:Pos) (pins:List (Addr×Obj)) (s:Shared) (σ:St) (H:Hp) (Q:List V->Hp->Prop),Inv X pins σ H s->t σ H Q->wpAny (model X.prog X.w) X.A (spliced (backTo pos (starEach es X.env))) (AP X pins σ Q) X.xe s
instance {X:Cx} {es:List Expr} {t:TA}:CoeFun (PA X es t) (fun _=>∀ (pos:Pos) (pins:List (Addr×Obj)) (s:Shared) (σ:St) (H:Hp) (Q:List V->Hp->Prop),Inv X pins σ H s->t σ H Q->wpAny (model X.prog X.w) X.A (spliced (backTo pos (starEach es X.env))) (AP X pins σ Q) X.xe s):=⟨fun h=>h.run⟩
structure PS (X:Cx) (st:Stmt) (t:TS):Prop where
 run:∀ (pins:List (Addr×Obj)) (s:Shared) (σ:St) (H:Hp) (D:Ends),Inv X pins σ H s->t D σ H->wpAny (model X.prog X.w) X.A (exec st X.env) (SP X pins D) X.xe s
instance {X:Cx} {st:Stmt} {t:TS}:CoeFun (PS X st t) (fun _=>∀ (pins:List (Addr×Obj)) (s:Shared) (σ:St) (H:Hp) (D:Ends),Inv X pins σ H s->t D σ H->wpAny (model X.prog X.w) X.A (exec st X.env) (SP X pins D) X.xe s):=⟨fun h=>h.run⟩
structure PSs (X:Cx) (st:List Stmt) (t:TS):Prop where
 run:∀ (pins:List (Addr×Obj)) (s:Shared) (σ:St) (H:Hp) (D:Ends),Inv X pins σ H s->t D σ H->wpAny (model X.prog X.w) X.A (execs st X.env) (SP X pins D) X.xe s
instance {X:Cx} {st:List Stmt} {t:TS}:CoeFun (PSs X st t) (fun _=>∀ (pins:List (Addr×Obj)) (s:Shared) (σ:St) (H:Hp) (D:Ends),Inv X pins σ H s->t D σ H->wpAny (model X.prog X.w) X.A (execs st X.env) (SP X pins D) X.xe s):=⟨fun h=>h.run⟩
variable {A:Around} {E:Value->Shared->Prop}
theorem thn {t:Sem α} {Q Q':α->Shared->Prop} {M:Model} (h:wpAny M A t Q E s) (hQ:∀ a s,Q a s->Q' a s):wpAny M A t Q' E s:=wpAny_mono h hQ fun _ _ x=>x
variable {σ:St} {pos:Pos} {Q:Value->Shared->Prop} {ta:TE} {c:Expr}
section
def qcQ (i:Nat):TE:=fun σ H Q=>∃ v,σ[i]?=some (some v)/\Q v H
def tC (v:V):TE:=fun _ H Q=>Q v H
theorem vm (hN:X.N[i]?=some x) (hv:Vis X.env.scope x) (hd:(x == ("__debug__":Str))=false:=by decide) (hcd:(x == ("__classdict__":Str))=false:=by decide):PE X (.Name x pos) (qcQ i):=by
 refine ⟨?_⟩
 intro pins s σ H Q I h
 obtain ⟨v,e,h⟩:=h
 obtain ⟨m,hn,hl⟩:=I.loc
 obtain ⟨u,r,l⟩:=hl i x v hN e hv
 have fin:EP X pins σ Q u s:=⟨v,H,I,r,h⟩
 rcases l with ⟨hk,hm⟩ | ⟨hk,c,hc,hcell⟩
 ·exact wpAny_Name (wpAny_loadName_local I.ok.kind hk hn hm fin) hd
 ·rcases hk with hk | hk
  ·exact wpAny_Name (wpAny_loadName_cell I.ok.kind hk hc hcell fin) hd
  ·exact wpAny_Name (wpAny_loadName_free I.ok.kind hk hc hcell fin hcd) hd
theorem qcR {i j pos}:PE X (.Constant (.int i) j pos) (tC (.int i)):=⟨fun _ _ _ H _ I h=>wpAny_Constant_int ⟨.int i,H,I.tok _,⟨_,rfl⟩,h⟩⟩
theorem qeI {b j pos}:PE X (.Constant (.bool b) j pos) (tC (.bl b)):=⟨fun _ _ _ H _ I h=>Constant_bool ⟨.bl b,H,I,rfl,h⟩⟩
theorem qcS {j pos}:PE X (.Constant .none j pos) (tC .non):=⟨fun _ _ _ H _ I h=>Constant_none ⟨.non,H,I,rfl,h⟩⟩
theorem qar {x j pos}:PE X (.Constant (.str x) j pos) (tC (.str x)):=⟨fun _ _ _ H _ I h=>Calls.Constant_str ⟨.str x,H,I.tok _,⟨_,rfl⟩,h⟩⟩
def Gl (X:Cx) (x:Str):Prop:=X.env.kindOf x=some .globalImplicit
theorem xB {E:Value->Shared->Prop} {pos:Pos} (I:Inv X pins σ H s) (hg:Gl X x) (hm:X.mg x=some u) (h:Q u s)
  (hd:(x == ("__debug__":Str))=false:=by decide):wpAny (model X.prog X.w) X.A (eval (.Name x pos) X.env) Q E s:=
 Calls.Name_function_global I.ok.kind hg (Calls.loadGlobal_global (by rw [I.ok.glob]; exact I.mod.glob.keeps I.bk) hm h) hd
theorem QO {E:Value->Shared->Prop} {pos:Pos} (I:Inv X pins σ H s) (hg:Gl X x) (hm:X.mg x=none) (hv:bootBuiltins x=some u) (h:Q u s)
  (hn:x ≠ "__name__":=by decide) (hd:(x == ("__debug__":Str))=false:=by decide):wpAny (model X.prog X.w) X.A (eval (.Name x pos) X.env) Q E s:=by
 obtain ⟨mb,h1,h2⟩:=I.mod.blt
 exact Calls.Name_function_global I.ok.kind hg (Calls.loadGlobal_builtin (by rw [I.ok.glob]; exact I.mod.glob.keeps I.bk) hm (by rw [I.ok.blt]; exact h1.keeps I.bk) ((h2 x hn).trans hv) h) hd
theorem qbe (hg:Gl X x) (hm:X.mg x=some u) (r:RelV v u) (hd:(x == ("__debug__":Str))=false:=by decide):PE X (.Name x pos) (tC v):=⟨fun _ _ _ H _ I h=>xB I hg hm ⟨v,H,I,r,h⟩ hd⟩
theorem qbf (hg:Gl X x) (hm:X.mg x=none) (hv:bootBuiltins x=some u) (r:RelV v u) (hn:x ≠ "__name__":=by decide) (hd:(x == ("__debug__":Str))=false:=by decide):PE X (.Name x pos) (tC v):=⟨fun _ _ _ H _ I h=>QO I hg hm hv ⟨v,H,I,r,h⟩ hn hd⟩
variable {a b:Expr} {tb:TE}
variable {tA tB':TT} {rest:List Expr}
def tOr (t u:TT):TT:=fun σ H Q=>t σ H fun c H1=>if c=true then Q true H1 else u σ H1 Q
def qf1 (t:TT):TT:=fun σ H Q=>t σ H fun c H1=>Q (!c) H1
theorem qbg (ha:PT X a tA):PW X (.BoolOp .And [a] pos) tA:=by
 refine ⟨?_⟩
 intro wh pins s σ H Q I h
 refine isTrue_and (thn (ha pins s σ H Q I h) fun c s1 e=>?_)
 cases c with
 | true=>exact isTrue_and_nil e
 | false=>exact e
theorem qcT (ha:PT X a tA):PW X (.BoolOp .Or [a] pos) tA:=by
 refine ⟨?_⟩
 intro wh pins s σ H Q I h
 refine isTrue_or (thn (ha pins s σ H Q I h) fun c s1 e=>?_)
 cases c with
 | false=>exact isTrue_or_nil e
 | true=>exact e
theorem qeJ (ha:PT X a tA) (hb:PW X (.BoolOp .Or (b::rest) pos) tB'):PW X (.BoolOp .Or (a::b::rest) pos) (tOr tA tB'):=by
 refine ⟨?_⟩
 intro wh pins s σ H Q I h
 refine isTrue_or (thn (ha pins s σ H _ I h) fun c s1 ⟨H1,I1,q1⟩=>?_)
 cases c with
 | true=>exact ⟨H1,I1,q1⟩
 | false=>exact hb wh pins s1 σ H1 Q I1 q1
theorem qcU (ha:PT X a tA):PT X (.UnaryOp .Not a pos) (qf1 tA):=by
 refine ⟨?_⟩
 intro pins s σ H Q I h
 exact isTrue_not (ha pins s σ H (fun c H1=>Q (!c) H1) I h)
def qeK (ta tb:TE):TE:=fun σ H Q=>ta σ H fun x H1=>∃ c,x=.bl c/\if c=true then tb σ H1 Q else Q (.bl false) H1
theorem qcV {op} {t:TE} (h:PE X a t):PE X (.BoolOp op [a] pos) t:=⟨fun pins s σ H Q I hw=>BoolOp_one (h pins s σ H Q I hw)⟩
theorem qcW (ha:PE X a ta) (hb:PE X (.BoolOp .And (b::rest) pos) tb):PE X (.BoolOp .And (a::b::rest) pos) (qeK ta tb):=by
 refine ⟨?_⟩
 intro pins s σ H Q I h
 refine BoolOp_and (thn (ha pins s σ H _ I h) fun v s1 ⟨x,H1,I1,r1,q1⟩=>?_)
 obtain ⟨c,rfl,q1⟩:=q1
 cases r1
 refine wpAny_truthy_bool ?_
 cases c with
 | true=>exact hb pins s1 σ H1 Q I1 q1
 | false=>exact ⟨.bl false,H1,I1,rfl,q1⟩
def tIf (t:TT) (ta tb:TE):TE:=fun σ H Q=>t σ H fun c H1=>if c=true then ta σ H1 Q else tb σ H1 Q
theorem Zy (hc:PT X c tA) (ha:PE X a ta) (hb:PE X b tb):PE X (.IfExp c a b pos) (tIf tA ta tb):=by
 refine ⟨?_⟩
 intro pins s σ H Q I h
 refine wpAny_IfExp (thn (hc pins s σ H _ I h) fun d s1 ⟨H1,I1,q1⟩=>?_)
 cases d with
 | true=>exact ha pins s1 σ H1 Q I1 q1
 | false=>exact hb pins s1 σ H1 Q I1 q1
end
def SqL (K:Frag) (H:Hp) (a:Addr) (xs:List V):Prop:=
 Rd H a (.lst xs) \/
  ∃ (o:Obj) (its:Array Value) (n:Nat),K.lookup a=some o/\o.cls=.type "list"/\o.dict=none/\o.data=.seq its n/\its.size<=sizeLine/\Vals xs its.toList
def SqT (K:Frag) (H:Hp) (a:Addr) (xs:List V):Prop:=
 Rd H a (.tup xs) \/
  ∃ (o:Obj) (its:Array Value) (n:Nat),K.lookup a=some o/\(o.cls=.type "tuple"/\o.dict=none)/\o.data=.seq its n/\its.size<=sizeLine/\Vals xs its.toList
noncomputable def qf2:Value->Option V
 | .none=>some .non
 | .bool b=>some (.bl b)
 | .int i _=>some (.int i)
 | .str x _=>some (.str x)
 | .bytes b _=>some (.byt b)
 | .float b _=>some (.flt b)
 | .ref a=>some (.ref a)
 | .type n=>some (.ty n)
 | _=>none
theorem RelV.abs {x:V} (r:RelV x u):qf2 u=some x:=by
 cases x with
 | non=>cases r; rfl
 | bl _=>cases r; rfl
 | int _=>obtain ⟨t,rfl⟩:=r; rfl
 | str _=>obtain ⟨t,rfl⟩:=r; rfl
 | byt _=>obtain ⟨t,rfl⟩:=r; rfl
 | flt _=>obtain ⟨t,rfl⟩:=r; rfl
 | ref _=>cases r; rfl
 | ty _=>cases r; rfl
variable {y:V}
theorem RelV.inj {x:V} (r:RelV x u) (q:RelV y u):x=y:=br.inj (r.abs.symm.trans q.abs)
theorem Vals.inj:∀ {xs ys:List V} {us:List Value},Vals xs us->Vals ys us->xs=ys
 | _,_,_,.nil,.nil=>rfl
 | _,_,_,.cons r t,.cons r' t'=>by rw [r.inj r',Vals.inj t t']
variable {K:Frag}
section
variable {ys:List V}
theorem SqT.of (h:H a=some (.tup xs)):SqT K H a xs:=.inl (.inl h)
theorem Inv.list (I:Inv X pins σ H s) (h:SqL X.K H a xs):∃ its:List Value,Vals xs its/\PlainL s.heap a its.toArray/\xs.length<=sizeLine:=by
 rcases h with h | ⟨o,its,n,hk,hc,hd,hs,hz,r⟩
 ·obtain ⟨z,its,n,r,e⟩:=h.ok I.hok
  exact ⟨its,r,⟨_,n,e,rfl,rfl,rfl⟩,z⟩
 ·refine ⟨its.toList,r,⟨o,n,I.kIn a o hk,hc,hd,by simpa using hs⟩,?_⟩
  have e:=r.length
  simp only [cy] at e
  omega
theorem Inv.tuple (I:Inv X pins σ H s) (h:SqT X.K H a xs):∃ its:List Value,Vals xs its/\IsTup s.heap a its.toArray/\xs.length<=sizeLine:=by
 rcases h with h | ⟨o,its,n,hk,hc,hs,hz,r⟩
 ·obtain ⟨⟨z,_⟩,its,r,p⟩:=h.ok I.hok
  exact ⟨its,r,p,z⟩
 ·refine ⟨its.toList,r,⟨o,I.kIn a o hk,hc.1,n,by simpa using hs⟩,?_⟩
  have e:=r.length
  simp only [cy] at e
  omega
theorem Inv.tupleN (I:Inv X pins σ H s) (h:SqT X.K H a xs):∃ o,s.heap.get? a=some o/\o.dict=none:=by
 rcases h with h | ⟨o,its,n,hk,hc,hs,hz,r⟩
 ·obtain ⟨⟨z,w⟩,its,r,p⟩:=h.ok I.hok
  exact w
 ·exact ⟨o,I.kIn a o hk,hc.2⟩
theorem Inv.list_inj (I:Inv X pins σ H s) (h:SqL X.K H a xs) (h':SqL X.K H a ys):xs=ys:=by
 obtain ⟨its,r,⟨o,n,e,_,_,d⟩,_⟩:=I.list h
 obtain ⟨its',r',⟨o',n',e',_,_,d'⟩,_⟩:=I.list h'
 rw [e] at e'; cases e'
 rw [d] at d'
 injection d' with d1 _
 have:its=its':=by simpa using congrArg Array.toList d1
 subst this
 exact r.inj r'
theorem Inv.tuple_inj (I:Inv X pins σ H s) (h:SqT X.K H a xs) (h':SqT X.K H a ys):xs=ys:=by
 obtain ⟨its,r,⟨o,e,_,n,d⟩,_⟩:=I.tuple h
 obtain ⟨its',r',⟨o',e',_,n',d'⟩,_⟩:=I.tuple h'
 rw [e] at e'; cases e'
 rw [d] at d'
 injection d' with d1 _
 have:its=its':=by simpa using congrArg Array.toList d1
 subst this
 exact r.inj r'
end
variable {te:TE} {tc:TT}
section
variable {st:Stmt} {rest:List Stmt} {t u:TS}
def qeL:TS:=fun D σ H=>D.nx σ H
def Zz (t u:TS):TS:=fun D σ H=>t { D with nx:=u D } σ H
theorem UE:PSs X [] qeL:=⟨fun _ _ σ H _ I h=>wpAny_execs_nil ⟨σ,H,I,h⟩⟩
theorem wU (h1:PS X st t) (h2:PSs X rest u):PSs X (st::rest) (Zz t u):=by
 refine ⟨?_⟩
 intro pins s σ H D I h
 refine wpAny_execs_cons (thn (h1 pins s σ H { D with nx:=u D } I h) fun f s1 q=>?_)
 cases f with
 | next=>
  obtain ⟨σ',H',I',q⟩:=q
  exact h2 pins s1 σ' H' D I' q
 | ret v=>exact q
 | brk=>exact q
 | cont=>exact q
theorem Km (h1:PS X st t):PSs X [st] t:=by
 refine ⟨?_⟩
 intro pins s σ H D I h
 refine wpAny_execs_cons (thn (h1 pins s σ H D I h) fun f s1 q=>?_)
 cases f with
 | next=>exact wpAny_execs_nil q
 | ret v=>exact q
 | brk=>exact q
 | cont=>exact q
theorem Inv.quiet (I:Inv X pins σ H s):interactive X.env=false:=by simp [interactive,I.ok.kind]
def qeM (te:TE):TS:=fun D σ H=>te σ H fun _ H1=>D.nx σ H1
theorem qbh (he:PE X e te) (hs:swapsWith e none pos.line X.env=pure false:=by rfl):PS X (.Expr e pos) (qeM te):=by
 refine ⟨?_⟩
 intro pins s σ H D I h
 exact wpAny_Expr_any (thn (he pins s σ H _ I h) fun v s1 ⟨x,H1,I1,r1,q1⟩=>⟨σ,H1,I1,q1⟩) I.quiet hs
def qf3 (te:TE):TS:=fun D σ H=>te σ H D.rt
theorem qcX (he:PE X e te):PS X (.Return (some e) pos) (qf3 te):=by
 refine ⟨?_⟩
 intro pins s σ H D I h
 exact wpAny_Return_some (thn (he pins s σ H _ I h) fun v s1 ⟨x,H1,I1,r1,q1⟩=>⟨x,σ,H1,I1,r1,q1⟩)
def qf4 (c:TT) (t u:TS):TS:=fun D σ H=>c σ H fun b H1=>if b=true then t D σ H1 else u D σ H1
theorem qeN {a b:List Stmt} (hc:PT X c tc) (ha:PSs X a t) (hb:PSs X b u):PS X (.If c a b pos) (qf4 tc t u):=by
 refine ⟨?_⟩
 intro pins s σ H D I h
 refine wpAny_If (thn (hc pins s σ H _ I h) fun d s1 ⟨H1,I1,q1⟩=>?_)
 cases d with
 | true=>exact ha pins s1 σ H1 D I1 q1
 | false=>exact hb pins s1 σ H1 D I1 q1
end
abbrev TG:=V->St->Hp->(St->Hp->Prop)->Prop
abbrev TGs:=List V->St->Hp->(St->Hp->Prop)->Prop
structure PG (X:Cx) (target:Expr) (t:TG):Prop where
 run:∀ (pins:List (Addr×Obj)) (s:Shared) (σ:St) (H:Hp) (v:V) (u:Value) (Q:St->Hp->Prop),Inv X pins σ H s->RelV v u->t v σ H Q ->
  wpAny (model X.prog X.w) X.A (assign target X.env u) (fun _ s'=>∃ σ' H',Inv X pins σ' H' s'/\Q σ' H') X.xe s
instance {X:Cx} {target:Expr} {t:TG}:CoeFun (PG X target t) (fun _=>∀ (pins:List (Addr×Obj)) (s:Shared) (σ:St) (H:Hp) (v:V) (u:Value) (Q:St->Hp->Prop),Inv X pins σ H s->RelV v u->t v σ H Q ->
  wpAny (model X.prog X.w) X.A (assign target X.env u) (fun _ s'=>∃ σ' H',Inv X pins σ' H' s'/\Q σ' H') X.xe s):=⟨fun h=>h.run⟩
structure PGs (X:Cx) (ts:List Expr) (t:TGs):Prop where
 run:∀ (pins:List (Addr×Obj)) (s:Shared) (σ:St) (H:Hp) (vs:List V) (us:List Value) (Q:St->Hp->Prop),Inv X pins σ H s->Vals vs us->t vs σ H Q ->
  wpAny (model X.prog X.w) X.A (assignInOrder ((assignEach ts X.env).map (·.2)) us) (fun _ s'=>∃ σ' H',Inv X pins σ' H' s'/\Q σ' H') X.xe s
instance {X:Cx} {ts:List Expr} {t:TGs}:CoeFun (PGs X ts t) (fun _=>∀ (pins:List (Addr×Obj)) (s:Shared) (σ:St) (H:Hp) (vs:List V) (us:List Value) (Q:St->Hp->Prop),Inv X pins σ H s->Vals vs us->t vs σ H Q ->
  wpAny (model X.prog X.w) X.A (assignInOrder ((assignEach ts X.env).map (·.2)) us) (fun _ s'=>∃ σ' H',Inv X pins σ' H' s'/\Q σ' H') X.xe s):=⟨fun h=>h.run⟩
abbrev qeO:=V->V->V->Hp->(Hp->Prop)->Prop
def qfB (X:Cx) (t:qeO):Prop:=
 ∀ (pins:List (Addr×Obj)) (s:Shared) (σ:St) (H:Hp) (o i v:V) (ov iv u:Value) (Q:Hp->Prop),Inv X pins σ H s->RelV o ov->RelV i iv->RelV v u->t o i v H Q ->
  wpAny (model X.prog X.w) X.A (setItem ov iv u) (fun _ s'=>∃ H',Inv X pins σ H' s'/\Q H') X.xe s
variable {es:List Expr} {tg:Expr} {pos':Pos}
section
def qcY (i:Nat):TG:=fun v σ H Q=>Q (σ.set i (some v)) H
theorem qbi (hN:X.N.Nodup) (hi:X.N[i]?=some x) (hx:Loc X.env.scope x) (hf:X.fn x=true\/X.env.scope.names.lookup x=some .local:=by first | exact .inl rfl | exact .inr rfl | assumption):PG X (.Name x pos) (qcY i):=by
 refine ⟨?_⟩
 intro pins s σ H v u Q I r h
 exact wpAny_assign_Name (xi I hN hi hx r (fun s' I'=>⟨_,H,I',h⟩) hf)
def qf5:TGs:=fun vs σ H Q=>vs=[]/\Q σ H
def qeP (t:TG) (u:TGs):TGs:=fun vs σ H Q=>∃ v r,vs=v::r/\t v σ H fun σ' H'=>u r σ' H' Q
theorem qbj:PGs X [] qf5:=by
 refine ⟨?_⟩
 intro pins s σ H vs us Q I r h
 obtain ⟨e,h⟩:=h
 subst e
 cases r
 exact assignInOrder_nil ⟨σ,H,I,h⟩
theorem ZA {t:TG} {u:TGs} (h1:PG X e t) (h2:PGs X es u)
  (hs:(assignEach (e::es) X.env).map (·.2)=assign e X.env::(assignEach es X.env).map (·.2):=by rfl):PGs X (e::es) (qeP t u):=by
 refine ⟨?_⟩
 intro pins s σ H vs us Q I r h
 obtain ⟨v,vr,e1,h⟩:=h
 subst e1
 cases r with
 | cons r rr=>
  rw [hs]
  refine assignInOrder_cons (thn (h1 pins s σ H _ _ _ I r h) fun _ s1 ⟨σ1,H1,I1,q1⟩=>?_)
  exact h2 pins s1 σ1 H1 _ _ Q I1 rr q1
def qf6 (K:Frag) (n:Nat) (t:TGs):TG:=fun v σ H Q=>∃ a xs,v=.ref a/\SqT K H a xs/\xs.length=n/\t xs σ H Q
theorem qcZ {k:Nat} {t:TGs} {n:Nat} (hc:X.calm=true) (h:PGs X es t)
  (hn:(assignEach es X.env).length=n:=by rfl) (hst:(assignEach es X.env).findIdx? (·.1)=none:=by rfl):PG X (.Tuple es k pos) (qf6 X.K n t):=by
 refine ⟨?_⟩
 intro pins s σ H v u Q I r hw
 obtain ⟨a,xs,e1,hq,hl,hw⟩:=hw
 subst e1
 cases r
 obtain ⟨its,rv,ht,hz⟩:=I.tuple hq
 refine assign_Tuple_tuple (I.ok.hd hc) ht (by simp [hn,<-hl,rv.length]) hst fun h' hx=>?_
 have I1:Inv X pins σ H { s with heap:=h' }:=I.kept (t':=s.toks) fun b o e=>hx b o (ay (ap e)) e
 exact h pins _ σ H xs _ Q I1 (by simpa using rv) hw
def qf7 (to ti:TE) (t:qeO):TG:=fun v σ H Q=>to σ H fun o H1=>ti σ H1 fun i H2=>t o i v H2 fun H3=>Q σ H3
theorem qc0 {o i:Expr} {to ti:TE} {t:qeO} (ho:PE X o to) (hi:PE X i ti) (hs:qfB X t)
  (ha:∀ v,assign (.Subscript o i pos) X.env v=(do
   let ov <-holding [v] (eval o X.env)
   let iv <-holding [v,ov] (eval i X.env)
   standAt pos
   holding [v,ov,iv] (setItem ov iv v)
   release [v,ov,iv] []):=by intro _; rfl):PG X (.Subscript o i pos) (qf7 to ti t):=by
 refine ⟨?_⟩
 intro pins s σ H v u Q I r h
 rw [ha]
 refine wpAny_bind (wpAny_holding (thn (ho pins s σ H _ I h) fun ov s1 ⟨x,H1,I1,r1,q1⟩=>?_))
 refine wpAny_bind (wpAny_holding (thn (hi pins s1 σ H1 _ I1 q1) fun iv s2 ⟨y,H2,I2,r2,q2⟩=>?_))
 refine wpAny_bind (wpAny_standAt (wpAny_bind (wpAny_holding (thn (hs pins s2 σ H2 x y v ov iv u _ I2 r1 r2 r q2) fun _ s3 ⟨H3,I3,q3⟩=>?_))))
 exact wpAny_release ⟨σ,H3,I3,q3⟩
def qfC (te:TE) (g:TG):TS:=fun D σ H=>te σ H fun x H1=>g x σ H1 D.nx
theorem qas {g:TG} (he:PE X e te) (hg:PG X tg g) (hs:swapsWithSole [tg] e pos.line X.env=pure false:=by rfl) (hw:swappedStores [tg] e X.env=pure none:=by rfl)
  (h1:(assignEach [tg] X.env).map (·.2)=[assign tg X.env]:=by rfl):PS X (.Assign [tg] e pos) (qfC te g):=by
 refine ⟨?_⟩
 intro pins s σ H D I h
 refine wpAny_Assign_stores (thn (he pins s σ H _ I h) fun v s1 ⟨x,H1,I1,r1,q1⟩=>?_) hs hw
 rw [h1]
 exact thn (hg pins s1 σ H1 x v _ I1 r1 q1) fun _ s2 q=>q
theorem qat (hN:X.N.Nodup) (hi:X.N[i]?=some x) (hx:Loc X.env.scope x) (he:PE X e te) (hs:swapsWith e (some (.Name x pos')) pos.line X.env=pure false:=by rfl) (hf:X.fn x=true\/X.env.scope.names.lookup x=some .local:=by first | exact .inl rfl | exact .inr rfl | assumption) :
  PS X (.Assign [.Name x pos'] e pos) (qfC te (qcY i)):=by
 refine ⟨?_⟩
 intro pins s σ H D I h
 refine wpAny_Assign_Name (thn (he pins s σ H _ I h) fun v s1 ⟨y,H1,I1,r1,q1⟩=>?_) hs
 exact xi I1 hN hi hx r1 (fun s2 I2=>⟨_,H1,I2,q1⟩) hf
def qf8 (i j:Nat) (ta:TA):TS:=fun D σ H=>ta σ H fun vs H1=>∃ v w,vs=[v,w]/\D.nx ((σ.set i (some v)).set j (some w)) H1
theorem qau {y:Str} {a b:Expr} {ta:TA} {px py pt:Pos} {kt k2 pt2} (hc:X.calm=true) (hN:X.N.Nodup) (hi:X.N[i]?=some x) (hj:X.N[j]?=some y) (hij:i≠j)
  (hx:X.env.scope.names.lookup x=some .local) (hy:X.env.scope.names.lookup y=some .local) (ha:PA X [a,b] ta)
  (hw:swappedStores [.Tuple [.Name x px,.Name y py] kt pt] (.Tuple [a,b] k2 pt2) X.env=pure (some [x,y]))
  (hs:swapsWithSole [.Tuple [.Name x px,.Name y py] kt pt] (.Tuple [a,b] k2 pt2) pos.line X.env=pure false:=by rfl) :
  PS X (.Assign [.Tuple [.Name x px,.Name y py] kt pt] (.Tuple [a,b] k2 pt2) pos) (qf8 i j ta):=by
 refine ⟨?_⟩
 intro pins s σ H D I h
 rw [exec_Assign_arm]
 refine wpAny_bind (wpAny_standAt ?_)
 rw [hs]
 refine wpAny_bind (wpAny_pure ?_)
 rw [if_neg (by decide)]
 refine wpAny_bind (Tuple_ (thn (ha _ pins s σ H _ I h) fun us s1 ⟨vs,H1,I1,r1,q1⟩=>?_))
 obtain ⟨v,w,e1,q1⟩:=q1
 subst e1
 obtain ⟨u1,u2,rfl,rv,rw'⟩:∃ u1 u2,us=[u1,u2]/\RelV v u1/\RelV w u2:=by
  cases r1 with
  | cons p q=>
   cases q with
   | cons p' q'=>
    cases q'
    exact ⟨_,_,rfl,p,p'⟩
 refine wpAny_newObj_type ?_ (by show 2<=sizeLine; decide)
 have I2:Inv X pins σ H1 { s1 with heap:=s1.heap.push { cls:=.type "tuple",data:=.seq [u1,u2].toArray } }:=I1.kept (t':=s1.toks) fun b o e=>aa _ e
 rw [hw]
 refine wpAny_bind (wpAny_pure ?_)
 show wpAny (model X.prog X.w) X.A (do rule "assign.swapped-stores"; let items <-unpackItems (.ref s1.heap.objs.size) 2 none; assignInOrder [fun v=>bindName X.env y v,fun v=>bindName X.env x v] items.reverse; pure Flow.next) _ _ _
 refine wpAny_bind (wpAny_rule (wpAny_bind (unpackItems_tuple (items:=#[u1,u2]) (I.ok.hd hc) (fJ s1.heap _) fun h' hx'=>?_)))
 have I3:=I2.kept (h':=h') (t':=s1.toks) fun b o e=>hx' b o (ay (ap e)) e
 show wpAny _ _ (assignInOrder [fun v=>bindName X.env y v,fun v=>bindName X.env x v] [u2,u1] >>= fun _=>pure Flow.next) _ _ _
 refine wpAny_bind (assignInOrder_cons (wpAny_bindName (xi I3 hN hj (.inl hy) rw' (fun s2 I4=>?_) (.inr hy))))
 refine assignInOrder_cons (wpAny_bindName (xi I4 hN hi (.inl hx) rv (fun s3 I5=>assignInOrder_nil (wpAny_pure ?_)) (.inr hx)))
 rw [List.set_comm _ _ (aX hij)] at I5
 exact ⟨_,H1,I5,q1⟩
end
variable {tb:TS} {body:List Stmt}
section
def qc1 (c:TT) (tb:TS):TS:=fun D σ H=>∃ W:Nat->St->Hp->Prop,(∃ m,W m σ H)/\∀ m σ H,W m σ H ->
 c σ H fun b H1=>if b=true then ∃ N:St->Hp->Prop,(∀ σ' H',N σ' H'->∃ m',m' < m/\W m' σ' H')/\tb { D with nx:=N,ct:=N,bk:=D.nx } σ H1 else D.nx σ H1
theorem ZB (hp:PassesOwn (model X.prog X.w) X.A X.env X.xe) (hc:PT X c tc) (hb:PSs X body tb):PS X (.While c body [] pos) (qc1 tc tb):=by
 refine ⟨?_⟩
 intro pins s σ H D I h
 obtain ⟨W,⟨m0,w0⟩,turn⟩:=h
 refine wpAny_While (codeAny_whileLoop (fun n s'=>∃ σ' H',Inv X pins σ' H' s'/\W n σ' H') ?_ m0 ⟨σ,H,I,w0⟩)
 rintro n s1 ⟨σ1,H1,I1,w1⟩
 refine wpAny_passesOwn hp (thn (hc pins s1 σ1 H1 _ I1 (turn n σ1 H1 w1)) fun b s2 ⟨H2,I2,q2⟩=>?_)
 cases b with
 | true=>
  obtain ⟨N,hN,q2⟩:=q2
  rw [if_pos rfl]
  refine wpAny_passesOwn hp (thn (hb pins s2 σ1 H2 _ I2 q2) fun f s3 q3=>?_)
  cases f with
  | next=>
   obtain ⟨σ3,H3,I3,n3⟩:=q3
   obtain ⟨m',hm,w3⟩:=hN σ3 H3 n3
   exact ⟨m',hm,σ3,H3,I3,w3⟩
  | cont=>
   obtain ⟨σ3,H3,I3,n3⟩:=q3
   obtain ⟨m',hm,w3⟩:=hN σ3 H3 n3
   exact ⟨m',hm,σ3,H3,I3,w3⟩
  | brk=>exact q3
  | ret v=>exact q3
 | false=>
  rw [if_neg bX]
  exact wpAny_execs_nil ⟨σ1,H2,I2,q2⟩
end
structure It where
 go:Nat->Hp->Prop
 yld:Nat->Hp->V->Hp->Prop
 stop:Nat->Hp->Prop
def Kf (X:Cx) (pins:List (Addr×Obj)) (H:Hp) (b:Addr):Prop:=
 H b=none/\b≠X.env.locals/\b∉X.fs/\(b∈X.ex\/X.s₀.heap.objs.size<=b)/\(∀ x c,X.env.cells.lookup x=some c->c≠b)/\∀ p∈X.pn++pins,p.1≠b
theorem Inv.fpOk (I:Inv X pins σ H s) (hb:s.heap.objs.size<=b) (hn:H' b=none):Kf X pins H' b:=by
 refine ⟨hn,dw (aO I.lt hb),I.nofs hb,.inr (bW I.sz hb),fun x c e z=>?_,fun p hp z=>?_⟩
 ·obtain ⟨v,q⟩:=I.cell x c e
  exact absurd (aO q.lt (by rw [z]; exact hb)) (bu _)
 ·exact absurd (aO (ap (I.pin p hp).1) (by rw [z]; exact hb)) (bu _)
structure Turn (P:Program) (w:World) (K:Frag) (tg:Expr) (J:It) (fp:List Addr) (it:Addr) (tn:Nat->Heap->Prop):Prop where
 mem:it∈fp
 obj:∀ i h,tn i h->∀ b∈fp,∃ o,h.get? b=some o/\∀ v,o.data≠.cell v
 keep:∀ i h h',tn i h->(∀ b∈fp,∀ o,h.get? b=some o->h'.get? b=some o)->tn i h'
 item:∀ (X:Cx),X.prog=P->X.w=w->X.K=K->X.calm=true->∀ (i:Nat) (pins:List (Addr×Obj)) (s:Shared) (σ:St) (H:Hp) (E:Value->Shared->Prop),Inv X pins σ H s->(∀ b∈fp,Kf X pins H b)->tn i s.heap->J.go i H ->
  wpAny (model P w) X.A (pyNext (.ref it)) (fun r s1=>∃ u,r=some u /\
   wpAny (model P w) X.A (letOwnedTupleGo tg (.ref it) u) (fun _ s2=>∃ x H',Inv X pins σ H' s2/\RelV x u/\J.yld i H x H'/\tn (i+1) s2.heap/\∀ b∈fp,H' b=none) E s1) E s
 done:∀ (X:Cx),X.prog=P->X.w=w->X.K=K->X.calm=true->∀ (i:Nat) (pins:List (Addr×Obj)) (s:Shared) (σ:St) (H:Hp) (E:Value->Shared->Prop),Inv X pins σ H s->(∀ b∈fp,Kf X pins H b)->tn i s.heap->J.stop i H ->
  wpAny (model P w) X.A (pyNext (.ref it)) (fun r s1=>r=none/\Inv X pins σ H s1) E s
 self:∀ (A:Around) (i:Nat) (s:Shared) (Q:Value->Shared->Prop) (E:Value->Shared->Prop),tn i s.heap->Q (.ref it) s->wpAny (model P w) A (pyIter (.ref it)) Q E s
abbrev TI:=St->Hp->(It->Hp->Prop)->Prop
def PIE (X:Cx) (pins:List (Addr×Obj)) (σ:St) (tg:Expr) (R:It->Hp->Prop) (itv:Value) (s2:Shared):Prop:=
 ∃ (it:Addr) (fp:List Addr) (tn:Nat->Heap->Prop) (J:It) (H':Hp),itv=.ref it/\Inv X pins σ H' s2/\Turn X.prog X.w X.K tg J fp it tn/\tn 0 s2.heap/\(∀ b∈fp,Kf X pins H' b)/\R J H'
structure PI (X:Cx) (tg iter:Expr) (wi:TI):Prop where
 run:∀ (pins:List (Addr×Obj)) (s:Shared) (σ:St) (H:Hp) (R:It->Hp->Prop),Inv X pins σ H s->wi σ H R ->
  wpAny (model X.prog X.w) X.A (eval iter X.env) (fun v s1=>wpAny (model X.prog X.w) X.A (pyIter v) (PIE X pins σ tg R) X.xe s1) X.xe s
instance {X:Cx} {tg iter:Expr} {wi:TI}:CoeFun (PI X tg iter wi) (fun _=>∀ (pins:List (Addr×Obj)) (s:Shared) (σ:St) (H:Hp) (R:It->Hp->Prop),Inv X pins σ H s->wi σ H R ->
  wpAny (model X.prog X.w) X.A (eval iter X.env) (fun v s1=>wpAny (model X.prog X.w) X.A (pyIter v) (PIE X pins σ tg R) X.xe s1) X.xe s):=⟨fun h=>h.run⟩
theorem ZC {M:Model} {A:Around} {E:Value->Shared->Prop} {tg:Expr} {u:Value} {o:Obj} {n:String} {vs:Array Value} {Q:Unit->Shared->Prop} (ho:s.heap.get? it=some o) (hc:o.cls=.type n) (hd:o.data=.fields vs)
    (hn:["enumerate", "zip", "dict_itemiterator", "dict_reverseitemiterator", "odict_iterator", "itertools.zip_longest", "itertools.pairwise"].contains n=false) (hQ:Q () s):wpAny M A (letOwnedTupleGo tg (.ref it) u) Q E s:=by
  unfold letOwnedTupleGo
  cases tg <;> first
    | exact wpAny_pure hQ
    | (cases u <;> first
        | exact wpAny_pure hQ
        | (refine wpAny_bind (wpAny_load ho ?_)
           rw [hc,hd]
           show wpAny M A (if (["enumerate", "zip", "dict_itemiterator", "dict_reverseitemiterator", "odict_iterator", "itertools.zip_longest", "itertools.pairwise"].contains n&&vs[0]? == some (rawInt _))=true then _ else _) Q E s
           rw [if_neg (by intro h; rw [hn,Bool.false_and] at h; cases h)]
           exact wpAny_pure hQ))
noncomputable def Itl (K:Frag) (a:Addr):It:=
 ⟨fun i H=>∃ xs x,SqL K H a xs/\xs[i]?=some x,fun i H x H'=>H'=H/\∀ xs,SqL K H a xs->xs[i]?=some x,fun i H=>∃ xs,SqL K H a xs/\xs.length<=i⟩
noncomputable def Itt (K:Frag) (a:Addr):It:=
 ⟨fun i H=>∃ xs x,SqT K H a xs/\xs[i]?=some x,fun i H x H'=>H'=H/\∀ xs,SqT K H a xs->xs[i]?=some x,fun i H=>∃ xs,SqT K H a xs/\xs.length<=i⟩
noncomputable def Itr (lo:Int) (n:Nat):It:=⟨fun i _=>i < n,fun i H x H'=>H'=H/\x=.int (lo+i),fun i _=>n<=i⟩
theorem UF (a it:Addr):Turn P w K tg (Itl K a) [it] it (fun i h=>h.IsListIter it a i) where
 mem:=by simp
 obj:=fun i h st b hb=>by
  have e:b=it:=by simpa using hb
  subst e
  obtain ⟨o,e,c,d⟩:=st
  exact ⟨o,e,fun v z=>by rw [d] at z; cases z⟩
 keep:=fun i h h' st k=>st.at fun o e=>k it (by simp) o e
 item:=by
  intro X hP hw hK hc i pins s σ H E I hf st hg
  subst hP hw hK
  obtain ⟨xs,x,hq,hx⟩:=hg
  obtain ⟨its,rv,p,hz⟩:=I.list hq
  obtain ⟨u,hu,ru⟩:=rv.get hx
  obtain ⟨f0,f1,f2,f3,f4,f5⟩:=hf it (by simp)
  refine wpAny_pyNext_list_item st p.isList (x:=u) (by simpa using hu) fun h' st' sb=>?_
  have I1:Inv X pins σ H { s with heap:=h' }:=I.turned (t':=s.toks) (fun b o hb e=>(sb.2 b hb).trans e) f0 f1 f3 f4 f5
  obtain ⟨o,e,c,d⟩:=id st'
  exact ⟨u,rfl,ZC (s:={ s with heap:=h' }) e c d (by decide) ⟨x,H,I1,ru,⟨rfl,fun ys hy=>by rw [I.list_inj hy hq]; exact hx⟩,st',fun b hb=>(hf b hb).1⟩⟩
 done:=by
  intro X hP hw hK hc i pins s σ H E I hf st hg
  subst hP hw hK
  obtain ⟨xs,hq,hx⟩:=hg
  obtain ⟨its,rv,p,hz⟩:=I.list hq
  obtain ⟨f0,f1,f2,f3,f4,f5⟩:=hf it (by simp)
  have hl:=rv.length
  exact wpAny_pyNext_list_end (I.ok.hd hc) st p.isList (by simp; omega) fun h' eb=>⟨rfl,I.turned (t':=s.toks) (fun b o hb e=>eb b o hb e) f0 f1 f3 f4 f5⟩
 self:=fun _ _ _ _ _ st h=>wpAny_pyIter_listiter st h
theorem WR (a it:Addr):Turn P w K tg (Itt K a) [it] it (fun i h=>h.IsTupleIter it a i) where
 mem:=by simp
 obj:=fun i h st b hb=>by
  have e:b=it:=by simpa using hb
  subst e
  obtain ⟨o,e,c,d⟩:=st
  exact ⟨o,e,fun v z=>by rw [d] at z; cases z⟩
 keep:=fun i h h' st k=>st.at fun o e=>k it (by simp) o e
 item:=by
  intro X hP hw hK hc i pins s σ H E I hf st hg
  subst hP hw hK
  obtain ⟨xs,x,hq,hx⟩:=hg
  obtain ⟨its,rv,p,hz⟩:=I.tuple hq
  obtain ⟨u,hu,ru⟩:=rv.get hx
  obtain ⟨f0,f1,f2,f3,f4,f5⟩:=hf it (by simp)
  refine wpAny_pyNext_tuple_item st (show s.heap.IsTuple a its.toArray from p) (x:=u) (by simpa using hu) fun h' st' sb=>?_
  have I1:Inv X pins σ H { s with heap:=h' }:=I.turned (t':=s.toks) (fun b o hb e=>(sb.2 b hb).trans e) f0 f1 f3 f4 f5
  obtain ⟨o,e,c,d⟩:=id st'
  exact ⟨u,rfl,ZC (s:={ s with heap:=h' }) e c d (by decide) ⟨x,H,I1,ru,⟨rfl,fun ys hy=>by rw [I.tuple_inj hy hq]; exact hx⟩,st',fun b hb=>(hf b hb).1⟩⟩
 done:=by
  intro X hP hw hK hc i pins s σ H E I hf st hg
  subst hP hw hK
  obtain ⟨xs,hq,hx⟩:=hg
  obtain ⟨its,rv,p,hz⟩:=I.tuple hq
  obtain ⟨f0,f1,f2,f3,f4,f5⟩:=hf it (by simp)
  have hl:=rv.length
  exact wpAny_pyNext_tuple_end (I.ok.hd hc) st (show s.heap.IsTuple a its.toArray from p) (by simp; omega) fun h' eb=>⟨rfl,I.turned (t':=s.toks) (fun b o hb e=>eb b o hb e) f0 f1 f3 f4 f5⟩
 self:=fun _ _ _ _ _ st h=>wpAny_pyIter_tupleiter st h
theorem WS (it:Addr) (lo:Int) (n:Nat):Turn P w K tg (Itr lo n) [it] it (fun i h=>IsRangeIter h it (lo+(i:Nat) * 1) ((n:Int) - (i:Nat)) 1) where
 mem:=by simp
 obj:=fun i h st b hb=>by
  have e:b=it:=by simpa using hb
  subst e
  exact ⟨_,st,fun v z=>by
   have z':Data.fields _=Data.cell v:=z
   cases z'⟩
 keep:=fun i h h' st k=>k it (by simp) _ st
 item:=by
  intro X hP hw hK hc i pins s σ H E I hf st hg
  subst hP hw hK
  obtain ⟨f0,f1,f2,f3,f4,f5⟩:=hf it (by simp)
  have W:=Walks.range (prog:=X.prog) (w:=X.w) (I.ok.hd hc) it lo 1 n
  refine W.item i s _ _ hg st fun v h' tk hv st' kk=>?_
  obtain ⟨t,rfl⟩:=hv
  have I1:Inv X pins σ H { s with heap:=h',toks:=tk }:=I.turned (fun b o hb e=>kk b o (by simpa using hb) e) f0 f1 f3 f4 f5
  refine ⟨_,rfl,ZC (s:={ s with heap:=h',toks:=tk }) (n := "range_iterator") st' rfl rfl (by decide) ⟨.int (lo+i),H,I1,⟨t,?_⟩,⟨rfl,rfl⟩,st',fun b hb=>(hf b hb).1⟩⟩
  rw [Int.mul_one]
 done:=by
  intro X hP hw hK hc i pins s σ H E I hf st hg
  subst hP hw hK
  obtain ⟨f0,f1,f2,f3,f4,f5⟩:=hf it (by simp)
  exact wpAny_pyNext_range_end (I.ok.hd hc) st (by have:n<=i:=hg; omega) fun h' eb=>⟨rfl,I.turned (t':=s.toks) (fun b o hb e=>eb b o hb e) f0 f1 f3 f4 f5⟩
 self:=fun _ _ _ _ _ st h=>wpAny_pyIter_rangeiter st h
variable {p:Pos} {fp:List Addr}
section
theorem ZD {R:It->Hp->Prop} {E:Value->Shared->Prop} {lo hi:Int} {t u v:Tok} {tk:Nat} (I:Inv X pins σ H s) (h1:-(2 ^ 62)<=lo) (h2:lo < 2 ^ 62) (h3:-(2 ^ 62)<=hi) (h4:hi < 2 ^ 62)
  (q:R (Itr lo (hi - lo).toNat) H):wpAny (model X.prog X.w) X.A (pyIter (.ref s.heap.objs.size)) (PIE X pins σ tg R) E { s with heap:=s.heap.push { cls:=.type "range",data:=.fields #[.int lo t,.int hi u,.int 1 v] },toks:=tk }:=by
 refine wpAny_pyIter_range (IsRange.new ..) (small_one h1 h2 h3 h4) ?_
 have I1:Inv X pins σ H { s with heap:=s.heap.push { cls:=.type "range",data:=.fields #[.int lo t,.int hi u,.int 1 v] },toks:=tk }:=I.kept fun b o e=>aa _ e
 refine ⟨(s.heap.push { cls:=.type "range",data:=.fields #[.int lo t,.int hi u,.int 1 v] }).objs.size,[(s.heap.push { cls:=.type "range",data:=.fields #[.int lo t,.int hi u,.int 1 v] }).objs.size],_,_,H,rfl,
  I1.kept (t':=tk) fun b o e=>aa _ e,WS _ lo (hi - lo).toNat,?_,fun b hb=>?_,q⟩
 ·have e1:lo+((0:Nat):Int) * 1=lo:=by simp
  have e2:(((hi - lo).toNat:Nat):Int) - ((0:Nat):Int)=Builtin.Range.rangeSize lo hi 1:=by rw [rangeSize_one]; split <;> omega
  show IsRangeIter _ _ (lo+((0:Nat):Int) * 1) ((((hi - lo).toNat:Nat):Int) - ((0:Nat):Int)) 1
  rw [e1,e2]
  exact ag _ rfl
 ·have e:b=(s.heap.push { cls:=.type "range",data:=.fields #[.int lo t,.int hi u,.int 1 v] }).objs.size:=by simpa using hb
  subst e
  exact I1.fpOk (ax _) (I1.hok.fresh (ax _))
def qeQ (ta:TA):TI:=fun σ H R=>ta σ H fun vs H1=>∃ j:Int,vs=[.int j]/\-(2 ^ 62)<=j/\j < 2 ^ 62/\R (Itr 0 j.toNat) H1
theorem UG {a:Expr} {ta:TA} (hg:Gl X "range") (hm:X.mg "range"=none) (ha:PA X [a] ta) (hs:starEach [a] X.env=[(false,eval a X.env)]:=by rfl):PI X tg (.Call (.Name "range" p) [a] [] pos) (qeQ ta):=by
 refine ⟨?_⟩
 intro pins s σ H R I h
 refine Call_ (QO I hg hm boot_range (db (thn (ha pos pins s σ H _ I h) fun us s1 ⟨vs,H1,I1,r1,q1⟩=>?_) hs rfl))
 obtain ⟨j,e,q1,q2,q⟩:=q1
 subst e
 cases r1 with
 | cons r rr=>
  cases rr
  obtain ⟨t,rfl⟩:=r
  exact call_range_1 (ZD I1 (by omega) (by omega) q1 q2 (by simpa using q))
def qf9 (wi:TI) (g:TG) (tb:TS):TS:=fun D σ H=>wi σ H fun J H1=>∃ W:Nat->Nat->St->Hp->Prop,(∃ m,W 0 m σ H1)/\∀ i m σ H,W i m σ H ->
 (J.stop i H/\D.nx σ H)\/(J.go i H/\∃ N:St->Hp->Prop,(∀ σ' H',N σ' H'->∃ m',m' < m/\W (i+1) m' σ' H')/\∀ x H',J.yld i H x H'->g x σ H' fun σ2 H2=>tb { D with nx:=N,ct:=N,bk:=D.nx } σ2 H2)
noncomputable def QP (fp:List Addr) (h:Heap):List (Addr×Obj):=fp.filterMap fun b=>(h.get? b).map fun o=>(b,o)
theorem wV {o:Obj} (hb:b∈fp) (e:h.get? b=some o):(b,o)∈QP fp h:=eQ.mpr ⟨b,hb,by rw [e]; rfl⟩
theorem UH {p:Addr×Obj} (hp:p∈QP fp h):p.1∈fp/\h.get? p.1=some p.2:=by
 obtain ⟨b,hb,e⟩:=eQ.mp hp
 cases q:h.get? b with
 | none=>rw [q] at e; cases e
 | some o=>
  rw [q] at e
  have e':(b,o)=p:=br.inj e
  subst e'
  exact ⟨hb,q⟩
theorem Inv.pinned (I:Inv X pins σ H s) (hf:∀ b∈fp,Kf X pins H b) (ho:∀ b∈fp,∃ o,s.heap.get? b=some o/\∀ v,o.data≠.cell v):Inv X (pins++QP fp s.heap) σ H s:=
 I.pins_of fun p hp=>(bc.mp hp).elim (fun z=>I.pin p (aU _ z)) fun z=>by
  obtain ⟨hb,e⟩:=UH z
  obtain ⟨f0,f1,f2,_⟩:=hf p.1 hb
  obtain ⟨o,e',d⟩:=ho p.1 hb
  rw [e] at e'; cases e'
  exact ⟨e,f0,f1,f2,d⟩
theorem Inv.unpinned {pl:List (Addr×Obj)} (I:Inv X (pins++pl) σ H s):Inv X pins σ H s:=I.pins_of fun p hp=>I.pin p (aU _ (cm _ hp))
theorem qav {iter:Expr} {wi:TI} {g:TG} {pos:Pos} (hp:PassesOwn (model X.prog X.w) X.A X.env X.xe) (hc:X.calm=true) (hi:PI X tg iter wi) (hg:PG X tg g) (hb:PSs X body tb)
  (hs:∀ x,foldedSetIterable iter X.env x=pure x:=by intro _; rfl):PS X (.For tg iter body [] pos) (qf9 wi g tb):=by
 refine ⟨?_⟩
 intro pins s σ H D I h
 refine wpAny_For (thn (hi pins s σ H _ I h) fun v s1 h1=>thn h1 fun itv s2 h2=>?_) hs
 obtain ⟨it,fp,tn,J,H2,e,I2,T,st2,f2,W,⟨m0,w0⟩,turn⟩:=h2
 subst e
 have stat:∀ {H':Hp},(∀ b∈fp,H' b=none)->∀ b∈fp,Kf X pins H' b:=fun hn b hb=>⟨hn b hb,(f2 b hb).2⟩
 refine codeAny_forLoop_any (fun n s'=>∃ i σ' H',Inv X pins σ' H' s'/\tn i s'.heap/\(∀ b∈fp,H' b=none)/\W i n σ' H') ?_ m0 ⟨0,σ,H2,I2,st2,fun b hb=>(f2 b hb).1,w0⟩
 rintro n s3 ⟨i,σ3,H3,I3,st3,fr3,w3⟩
 rcases turn i n σ3 H3 w3 with ⟨stop,qn⟩ | ⟨go,N,hN,step⟩
 ·refine wpAny_passesOwn hp (thn (T.done X rfl rfl rfl hc i pins s3 σ3 H3 X.xe I3 (stat fr3) st3 stop) fun r s4 ⟨hr,I4⟩=>?_)
  subst hr
  exact wpAny_execs_nil ⟨σ3,H3,I4,qn⟩
 ·refine wpAny_passesOwn hp (thn (T.item X rfl rfl rfl hc i pins s3 σ3 H3 X.xe I3 (stat fr3) st3 go) fun r s4 ⟨u,hr,h4⟩=>?_)
  subst hr
  refine wpAny_passesOwn hp (thn h4 fun _ s5 ⟨x,H5,I5,r5,y5,st5,fr5⟩=>?_)
  have I5':=I5.pinned (stat fr5) (T.obj _ _ st5)
  refine wpAny_passesOwn hp (thn (hg _ s5 σ3 H5 x u _ I5' r5 (step x H5 y5)) fun _ s6 ⟨σ6,H6,I6,q6⟩=>?_)
  refine wpAny_passesOwn hp (thn (hb _ s6 σ6 H6 _ I6 q6) fun f s7 q7=>?_)
  have again:∀ {σ7:St} {H7:Hp},Inv X (pins++QP fp s5.heap) σ7 H7 s7->N σ7 H7->∃ m,m < n/\∃ i σ' H',Inv X pins σ' H' s7/\tn i s7.heap/\(∀ b∈fp,H' b=none)/\W i m σ' H':=fun {σ7 H7} I7 n7=>by
   obtain ⟨m',hm,w7⟩:=hN σ7 H7 n7
   refine ⟨m',hm,i+1,σ7,H7,I7.unpinned,T.keep _ _ _ st5 fun b hb o e=>(I7.pin (b,o) (aU _ (aU _ (wV hb e)))).1,fun b hb=>?_,w7⟩
   obtain ⟨o,e,d⟩:=T.obj _ _ st5 b hb
   exact (I7.pin (b,o) (aU _ (aU _ (wV hb e)))).2.1
  cases f with
  | next=>obtain ⟨σ7,H7,I7,n7⟩:=q7; exact again I7 n7
  | cont=>obtain ⟨σ7,H7,I7,n7⟩:=q7; exact again I7 n7
  | brk=>obtain ⟨σ7,H7,I7,q7⟩:=q7; exact ⟨σ7,H7,I7.unpinned,q7⟩
  | ret v=>obtain ⟨x7,σ7,H7,I7,r7,q7⟩:=q7; exact ⟨x7,σ7,H7,I7.unpinned,r7,q7⟩
end
abbrev R2:=V->V->Hp->VK->Prop
def OpR (X:Cx) (f:Value->Value->Sem Value) (r:R2):Prop:=
 ∀ (pins:List (Addr×Obj)) (s:Shared) (σ:St) (H:Hp) (x y:V) (v u:Value) (Q:VK),Inv X pins σ H s->RelV x v->RelV y u->r x y H Q ->
  wpAny (model X.prog X.w) X.A (f v u) (EP X pins σ Q) X.xe s
def UnR (X:Cx) (f:Value->Sem Value) (r:V->Hp->VK->Prop):Prop:=
 ∀ (pins:List (Addr×Obj)) (s:Shared) (σ:St) (H:Hp) (x:V) (v:Value) (Q:VK),Inv X pins σ H s->RelV x v->r x H Q ->
  wpAny (model X.prog X.w) X.A (f v) (EP X pins σ Q) X.xe s
def um (X:Cx) (f:Value) (r:List V->Hp->VK->Prop):Prop:=
 ∀ (pins:List (Addr×Obj)) (s:Shared) (σ:St) (H:Hp) (xs:List V) (us:List Value) (Q:VK),Inv X pins σ H s->Vals xs us->r xs H Q ->
  wpAny (model X.prog X.w) X.A (call f us) (EP X pins σ Q) X.xe s
def qga (X:Cx) (r:V->Hp->(Bool->Hp->Prop)->Prop):Prop:=
 ∀ (pins:List (Addr×Obj)) (s:Shared) (σ:St) (H:Hp) (x:V) (v:Value) (Q:Bool->Hp->Prop),Inv X pins σ H s->RelV x v->r x H Q ->
  wpAny (model X.prog X.w) X.A (truthy v) (TP X pins σ Q) X.xe s
def tOp (r:R2) (ta tb:TE):TE:=fun σ H Q=>ta σ H fun x H1=>tb σ H1 fun y H2=>r x y H2 Q
def tUn (r:V->Hp->VK->Prop) (ta:TE):TE:=fun σ H Q=>ta σ H fun x H1=>r x H1 Q
def rI (C:Int->Int->Prop) (g:Int->Int->V):R2:=fun x y H Q=>∃ i j,x=.int i/\y=.int j/\C i j/\Q (g i j) H
def rI0 (g:Int->Int->V):R2:=fun x y H Q=>∃ i j,x=.int i/\y=.int j/\Q (g i j) H
def rU (g:Int->V):V->Hp->VK->Prop:=fun x H Q=>∃ i,x=.int i/\Q (g i) H
variable {r:R2}
section
variable {a b:Expr} {tb tc:TE}
theorem qeR (ha:PE X a ta) (hb:PE X b tb) {R:V->V->Hp->Prop} (I:Inv X pins σ H s)
  (h:ta σ H fun x H1=>tb σ H1 fun y H2=>R x y H2) {Q:Value->Shared->Prop} {f:Value->Value->Sem Value}
  (hf:∀ v u s2 x y H2,Inv X pins σ H2 s2->RelV x v->RelV y u->R x y H2->wpAny (model X.prog X.w) X.A (f v u) Q X.xe s2) :
  wpAny (model X.prog X.w) X.A (eval a X.env) (fun v s₁=>wpAny (model X.prog X.w) X.A (eval b X.env) (fun u s₂=>wpAny (model X.prog X.w) X.A (f v u) Q X.xe s₂) X.xe s₁) X.xe s:=by
 refine thn (ha pins s σ H _ I h) fun v s1 ⟨x,H1,I1,r1,q1⟩=>?_
 refine thn (hb pins s1 σ H1 _ I1 q1) fun u s2 ⟨y,H2,I2,r2,q2⟩=>?_
 exact hf v u s2 x y H2 I2 r1 r2 q2
theorem qeS {op:Operator} (ho:OpR X (binaryOp op) r) (ha:PE X a ta) (hb:PE X b tb):PE X (.BinOp a op b pos) (tOp r ta tb):=by
 refine ⟨?_⟩
 intro pins s σ H Q I h
 exact wpAny_BinOp (qeR ha hb I h fun v u s2 x y H2 I2 rx ry q=>ho pins s2 σ H2 x y v u Q I2 rx ry q)
theorem qeT {op:UnaryOp} {r:V->Hp->VK->Prop} (ho:UnR X (unaryOp op) r) (ha:PE X a ta):PE X (.UnaryOp op a pos) (tUn r ta):=by
 refine ⟨?_⟩
 intro pins s σ H Q I h
 exact UnaryOp_ (thn (ha pins s σ H _ I h) fun v s1 ⟨x,H1,I1,r1,q1⟩=>ho pins s1 σ H1 x v Q I1 r1 q1)
theorem opI {f:Value->Value->Sem Value} {C:Int->Int->Prop} {g:Int->Int->Int}
  (rule:∀ (i j:Int) (t u:Tok) (s:Shared) (Q:Value->Shared->Prop) (E:Value->Shared->Prop),C i j->Q (.int (g i j) s.toks) { s with toks:=s.toks+1 }->wpAny (model X.prog X.w) X.A (f (.int i t) (.int j u)) Q E s) :
  OpR X f (rI C fun i j=>.int (g i j)):=by
 intro pins s σ H x y v u Q I rx ry h
 obtain ⟨i,j,rfl,rfl,hc,q⟩:=h
 obtain ⟨t,rfl⟩:=rx
 obtain ⟨t',rfl⟩:=ry
 exact rule i j t t' s _ _ hc ⟨.int (g i j),H,I.tok _,⟨_,rfl⟩,q⟩
theorem qfD {f:Value->Value->Sem Value} {g:Int->Int->Int}
  (rule:∀ (i j:Int) (t u:Tok) (s:Shared) (Q:Value->Shared->Prop) (E:Value->Shared->Prop),Q (.int (g i j) s.toks) { s with toks:=s.toks+1 }->wpAny (model X.prog X.w) X.A (f (.int i t) (.int j u)) Q E s) :
  OpR X f (rI0 fun i j=>.int (g i j)):=by
 intro pins s σ H x y v u Q I rx ry h
 obtain ⟨i,j,rfl,rfl,q⟩:=h
 obtain ⟨t,rfl⟩:=rx
 obtain ⟨t',rfl⟩:=ry
 exact rule i j t t' s _ _ ⟨.int (g i j),H,I.tok _,⟨_,rfl⟩,q⟩
theorem qeU {f:Value->Value->Sem Value} {g:Int->Int->Bool}
  (rule:∀ (i j:Int) (t u:Tok) (s:Shared) (Q:Value->Shared->Prop) (E:Value->Shared->Prop),Q (.bool (g i j)) s->wpAny (model X.prog X.w) X.A (f (.int i t) (.int j u)) Q E s) :
  OpR X f (rI0 fun i j=>.bl (g i j)):=by
 intro pins s σ H x y v u Q I rx ry h
 obtain ⟨i,j,rfl,rfl,q⟩:=h
 obtain ⟨t,rfl⟩:=rx
 obtain ⟨t',rfl⟩:=ry
 exact rule i j t t' s _ _ ⟨.bl (g i j),H,I,rfl,q⟩
def qgb (i j:Int):Prop:=0 < j/\j < 1073741824
def qcD (i j:Int):Prop:=0<=j/\j<=1000000/\i.natAbs < 2 ^ 64
def CMul (i j:Int):Prop:=(-(2 ^ 64) < i/\i < 2 ^ 64)\/(-(2 ^ 64) < j/\j < 2 ^ 64)
theorem CMul.ok {i j:Int} (h:CMul i j):IntMulOk i j:=by
 rcases h with ⟨h1,h2⟩ | ⟨h1,h2⟩
 ·exact .of_left (intBits_le_64 h1 h2)
 ·exact .of_right (intBits_le_64 h1 h2)
theorem qc2:OpR X (binaryOp .Add) (rI0 fun i j=>.int (i+j)):=qfD fun _ _ _ _ _ _ _ q=>add_int q
theorem qc3:OpR X (binaryOp .Sub) (rI0 fun i j=>.int (i - j)):=qfD fun _ _ _ _ _ _ _ q=>sub_int q
theorem qc4:OpR X (binaryOp .Mult) (rI CMul fun i j=>.int (i * j)):=opI fun _ _ _ _ _ _ _ hc q=>mul_int q hc.ok
theorem qc5:OpR X (binaryOp .Mod) (rI (fun _ j=>0 < j) fun i j=>.int (i % j)):=opI fun i j _ _ _ _ _ hc q=>by
 have h1:(0:Int) < j:=hc
 exact mod_int' (by omega) (by rw [Int.fmod_eq_emod_of_nonneg i (by omega)]; exact q)
theorem qaw:OpR X (binaryOp .Pow) (rI qcD fun i j=>.int (i ^ j.toNat)):=opI fun _ _ _ _ _ _ _ hc q=>pow_int_small hc.1 hc.2.1 hc.2.2 q
theorem unI {f:Value->Sem Value} {g:Int->Int}
  (rule:∀ (i:Int) (t:Tok) (s:Shared) (Q:Value->Shared->Prop) (E:Value->Shared->Prop),Q (.int (g i) s.toks) { s with toks:=s.toks+1 }->wpAny (model X.prog X.w) X.A (f (.int i t)) Q E s) :
  UnR X f (rU fun i=>.int (g i)):=by
 intro pins s σ H x v Q I rx h
 obtain ⟨i,rfl,q⟩:=h
 obtain ⟨t,rfl⟩:=rx
 exact rule i t s _ _ ⟨.int (g i),H,I.tok _,⟨_,rfl⟩,q⟩
theorem qc6:UnR X (unaryOp .USub) (rU fun i=>.int (-i)):=unI fun _ _ _ _ _ q=>neg_int q
end
variable {op op':CmpOp} {r':R2}
section
variable {a b:Expr} {tb tc:TE}
theorem VI {Q:VK} {k k':Bool} (I:Inv X pins σ H s) (q:Q (.bl k) H) (e:k=k'):EP X pins σ Q (.bool k') s:=by
 subst e
 exact ⟨.bl k,H,I,rfl,q⟩
theorem qeV:OpR X (compareOp .Lt) (rI0 fun i j=>.bl (decide (i < j))):=qeU fun _ _ _ _ _ _ _ q=>lt_int q
theorem qeW:OpR X (compareOp .LtE) (rI0 fun i j=>.bl (decide (i<=j))):=qeU fun _ _ _ _ _ _ _ q=>le_int q
theorem qeX:OpR X (compareOp .GtE) (rI0 fun i j=>.bl (decide (j<=i))):=qeU fun _ _ _ _ _ _ _ q=>ge_int q
theorem UI:OpR X (compareOp .Lt) (fun x y H Q=>∃ i j,x=.str i/\y=.str j/\Q (.bl (decide (i.cps.toList < j.cps.toList))) H):=by
 intro pins s σ H x y v u Q I rx ry h
 obtain ⟨i,j,rfl,rfl,q⟩:=h
 obtain ⟨t,rfl⟩:=rx
 obtain ⟨t',rfl⟩:=ry
 exact lt_str (VI I q rfl)
theorem qc7:OpR X (compareOp .Is) (fun x y H Q=>y=.non/\Q (.bl (decide (x=.non))) H):=by
 intro pins s σ H x y v u Q I rx ry h
 obtain ⟨rfl,q⟩:=h
 cases ry
 refine is_none_gen (VI I q ?_)
 cases x <;> first
  | (cases rx; rfl)
  | (obtain ⟨t,rfl⟩:=rx; rfl)
theorem qbk:OpR X (compareOp .IsNot) (fun x y H Q=>y=.non/\Q (.bl (!decide (x=.non))) H):=by
 intro pins s σ H x y v u Q I rx ry h
 obtain ⟨rfl,q⟩:=h
 cases ry
 refine isnot_none_gen (VI I q ?_)
 cases x <;> first
  | (cases rx; rfl)
  | (obtain ⟨t,rfl⟩:=rx; rfl)
theorem VJ (b:Expr) (h:op≠.In:=by decide) (h2:op≠.NotIn:=by decide):behindInMarks op b=false:=by
 have e1:(op == CmpOp.In)=false:=by cases op <;> first | rfl | exact absurd rfl h
 have e2:(op == CmpOp.NotIn)=false:=by cases op <;> first | rfl | exact absurd rfl h2
 cases b <;> simp [behindInMarks,e1,e2]
theorem UJ (ho:OpR X (compareOp op) r) (ha:PE X a ta) (hb:PE X b tb) (hm:behindInMarks op b=false):PE X (.Compare a [op] [b] pos) (tOp r ta tb):=by
 refine ⟨?_⟩
 intro pins s σ H Q I h
 exact wpAny_Compare1 (qeR ha hb I h fun v u s2 x y H2 I2 rx ry q=>ho pins s2 σ H2 x y v u Q I2 rx ry q) hm
def qc8 (t:TE):TT:=fun σ H Q=>t σ H fun x H'=>∃ k,x=.bl k/\Q k H'
theorem UK (ho:OpR X (compareOp op) r) (ha:PE X a ta) (hb:PE X b tb) (hm:behindInMarks op b=false):PT X (.Compare a [op] [b] pos) (qc8 (tOp r ta tb)):=by
 refine ⟨?_⟩
 intro pins s σ H Q I h
 refine wpAny_isTrue_Compare1 (thn (ha pins s σ H _ I h) fun v s1 ⟨x,H1,I1,r1,q1⟩=>thn (hb pins s1 σ H1 _ I1 q1) fun u s2 ⟨y,H2,I2,r2,q2⟩=>
  thn (ho pins s2 σ H2 x y v u _ I2 r1 r2 q2) fun c s3 ⟨z,H3,I3,r3,k,e,q3⟩=>?_) hm
 subst e
 cases r3
 exact wpAny_truthy_bool ⟨H3,I3,q3⟩
def UL (r r':R2) (ta tb tc:TE):TE:=fun σ H Q=>ta σ H fun x H1=>tb σ H1 fun y H2=>r x y H2 fun z H3=>∃ k,z=.bl k /\
 (if k=true then tc σ H3 fun w' H4=>r' y w' H4 Q else Q (.bl false) H3)
theorem ZE (ho:OpR X (compareOp op) r) (ho':OpR X (compareOp op') r') (ha:PE X a ta) (hb:PE X b tb) (hc:PE X c tc)
  (hm:lastMarks [op,op'] [b,c]=false:=by with_unfolding_all rfl):PE X (.Compare a [op,op'] [b,c] pos) (UL r r' ta tb tc):=by
 refine ⟨?_⟩
 intro pins s σ H Q I h
 refine Compare_chain (thn (ha pins s σ H _ I h) fun v s1 ⟨x,H1,I1,r1,q1⟩=>chain_link (thn (hb pins s1 σ H1 _ I1 q1) fun u s2 ⟨y,H2,I2,r2,q2⟩=>
  thn (ho pins s2 σ H2 x y v u _ I2 r1 r2 q2) fun d s3 ⟨z,H3,I3,r3,k,e,q3⟩=>?_)) hm
 subst e
 cases r3
 refine wpAny_truthy_bool ?_
 cases k with
 | false=>exact ite_ff ⟨.bl false,H3,I3,rfl,q3⟩
 | true=>exact ite_tt (chain_last (thn (hc pins s3 σ H3 _ I3 q3) fun w' s4 ⟨z',H4,I4,r4,q4⟩=>ho' pins s4 σ H4 y z' u w' Q I4 r2 r4 q4))
theorem ZF (ho:OpR X (compareOp op) r) (ho':OpR X (compareOp op') r') (ha:PE X a ta) (hb:PE X b tb) (hc:PE X c tc)
  (hm:lastMarks [op,op'] [b,c]=false:=by with_unfolding_all rfl):PT X (.Compare a [op,op'] [b,c] pos) (qc8 (UL r r' ta tb tc)):=by
 refine ⟨?_⟩
 intro pins s σ H Q I h
 refine isTrue_chain (thn (ha pins s σ H _ I h) fun v s1 ⟨x,H1,I1,r1,q1⟩=>test_link (thn (hb pins s1 σ H1 _ I1 q1) fun u s2 ⟨y,H2,I2,r2,q2⟩=>
  thn (ho pins s2 σ H2 x y v u _ I2 r1 r2 q2) fun d s3 ⟨z,H3,I3,r3,k,e,q3⟩=>?_)) hm
 subst e
 cases r3
 refine wpAny_truthy_bool ?_
 cases k with
 | false=>
  obtain ⟨k',e',q'⟩:=q3
  cases e'
  exact ite_ff ⟨H3,I3,q'⟩
 | true=>
  refine ite_tt (test_last (thn (hc pins s3 σ H3 _ I3 q3) fun w' s4 ⟨z',H4,I4,r4,q4⟩=>thn (ho' pins s4 σ H4 y z' u w' _ I4 r2 r4 q4) fun d' s5 ⟨z2,H5,I5,r5,k2,e2,q5⟩=>?_))
  subst e2
  cases r5
  exact wpAny_truthy_bool ⟨H5,I5,q5⟩
def qeY (K:Frag) (x:V) (H:Hp) (k:Bool):Prop:=
 match x with
 | .non=>k=false
 | .bl b=>k=b
 | .int i=>k=(i != 0)
 | .str y=>y.length<=sizeLine/\k=((y.length:Int) != 0)
 | .byt y=>y.size<=sizeLine/\k=((y.size:Int) != 0)
 | .ref p=>(∃ xs,SqL K H p xs/\k=!xs.isEmpty)\/(∃ xs,SqT K H p xs/\k=!xs.isEmpty)\/∃ kvs,H p=some (.dK kvs)/\k=!kvs.isEmpty
 | _=>False
theorem WT {κ:Type} {kvs:List (κ×V)} {vs:List (κ×Value)} (r:KV kvs vs):(!vs.isEmpty)=!kvs.isEmpty:=by
 cases r <;> rfl
theorem ga {its:List Value} (r:Vals xs its):(!its.toArray.isEmpty)=!xs.isEmpty:=by
 cases r <;> simp
theorem gb:(sizeLine:Nat) < 2 ^ 63:=by rw [sizeLine_eq]; decide
theorem qc9:qga X (fun x H Q=>∃ k,qeY X.K x H k/\Q k H):=by
 intro pins s σ H x v Q I rx h
 obtain ⟨k,e,q⟩:=h
 have hl:=gb
 have hs:sizeLine=16777216:=sizeLine_eq
 cases x with
 | non=>
  cases rx
  have e':k=false:=e
  subst e'
  exact truthy_none ⟨H,I,q⟩
 | bl b=>
  cases rx
  have e':k=b:=e
  subst e'
  exact wpAny_truthy_bool ⟨H,I,q⟩
 | int i=>
  obtain ⟨t,rfl⟩:=rx
  have e':k=(i != 0):=e
  subst e'
  exact PySem.P.truthy_int ⟨H,I,q⟩
 | str y=>
  obtain ⟨t,rfl⟩:=rx
  obtain ⟨hy,e'⟩:y.length<=sizeLine/\k=((y.length:Int) != 0):=e
  subst e'
  exact PySem.P.truthy_str (by omega) ⟨H,I.tok _,q⟩
 | byt y=>
  obtain ⟨t,rfl⟩:=rx
  obtain ⟨hy,e'⟩:y.size<=sizeLine/\k=((y.size:Int) != 0):=e
  subst e'
  exact PySem.W.truthy_bytes (by omega) ⟨H,I.tok _,q⟩
 | ref p=>
  cases rx
  have e':(∃ xs,SqL X.K H p xs/\k=!xs.isEmpty)\/(∃ xs,SqT X.K H p xs/\k=!xs.isEmpty)\/∃ kvs,H p=some (.dK kvs)/\k=!kvs.isEmpty:=e
  rcases e' with ⟨xs,hx,e'⟩ | ⟨xs,hx,e'⟩ | ⟨kvs,hx,e'⟩
  ·subst e'
   obtain ⟨its,r,pl,hz⟩:=I.list hx
   have hlen:=r.length
   exact wpAny_truthy_list pl.isList (by simp only [ak]; omega) ⟨H,I.tok _,by rw [ga r]; exact q⟩
  ·subst e'
   obtain ⟨its,r,pl,hz⟩:=I.tuple hx
   have hlen:=r.length
   exact truthy_tuple pl (by simp only [ak]; omega) ⟨H,I.tok _,by rw [ga r]; exact q⟩
  ·subst e'
   obtain ⟨hz,hS,vs,r,m⟩:kvs.length<=sizeLine/\(p == sysModules)=false/\∃ vs,KV kvs vs/\s.heap.DictOf (jh X.prog X.w) p vs:=I.hok p _ hx
   have hlen:kvs.length=vs.length:=fB r
   exact wpAny_truthy_dict hS m (by omega) ⟨H,I.tok _,by rw [WT r]; exact q⟩
 | _=>exact (show False from e).elim
theorem ZG (ha:PE X a ta) (he:∀ whole,isTrue a X.env whole=(do let v <-whole; standAt a.pos; holding [v] (truthy v))) :
  PT X a (fun σ H Q=>ta σ H fun x H'=>∃ k,qeY X.K x H' k/\Q k H'):=by
 refine ⟨?_⟩
 intro pins s σ H Q I h
 exact isTrue_plain (thn (ha pins s σ H _ I h) fun v s1 ⟨x,H1,I1,r1,q1⟩=>qc9 pins s1 σ H1 x v Q I1 r1 q1) (he _)
theorem WU:OpR X (binaryOp .Add) (fun x y H Q=>∃ i j,x=.str i/\y=.str j/\i.length+j.length<=sizeLine/\Q (.str (i++j)) H):=by
 intro pins s σ H x y v u Q I rx ry h
 obtain ⟨i,j,rfl,rfl,hz,q⟩:=h
 obtain ⟨t,rfl⟩:=rx
 obtain ⟨t',rfl⟩:=ry
 exact add_str (fun t' tk=>⟨.str (i++j),H,I.tok _,⟨_,rfl⟩,q⟩) hz
theorem xc {x:V} (r:Vals [x] us):∃ u,us=[u]/\RelV x u:=by
 cases r with
 | cons r1 r2=>cases r2; exact ⟨_,rfl,r1⟩
theorem ZH {x:V} (r:Vals [x,y] us):∃ u w',us=[u,w']/\RelV x u/\RelV y w':=by
 cases r with
 | cons r1 r2=>
  cases r2 with
  | cons r3 r4=>cases r4; exact ⟨_,_,rfl,r1,r3⟩
theorem UM (hc:X.calm=true):um X (.builtin "max") (fun xs H Q=>∃ i j,xs=[.int i,.int j]/\Q (.int (if j > i then j else i)) H):=by
 intro pins s σ H xs us Q I r h
 obtain ⟨i,j,rfl,q⟩:=h
 obtain ⟨u,w',rfl,⟨t,rfl⟩,⟨t',rfl⟩⟩:=ZH r
 refine max_two_ints (I.ok.hd hc) fun h' tk k=>⟨_,H,I.kept k,?_,q⟩
 by_cases hj:j > i
 ·rw [if_pos hj,if_pos hj]; exact ⟨_,rfl⟩
 ·rw [if_neg hj,if_neg hj]; exact ⟨_,rfl⟩
theorem UN (hc:X.calm=true):um X (.builtin "min") (fun xs H Q=>∃ i j,xs=[.int i,.int j]/\Q (.int (if j < i then j else i)) H):=by
 intro pins s σ H xs us Q I r h
 obtain ⟨i,j,rfl,q⟩:=h
 obtain ⟨u,w',rfl,⟨t,rfl⟩,⟨t',rfl⟩⟩:=ZH r
 refine min_two_ints (I.ok.hd hc) fun h' tk k=>⟨_,H,I.kept k,?_,q⟩
 by_cases hj:j < i
 ·rw [if_pos hj,if_pos hj]; exact ⟨_,rfl⟩
 ·rw [if_neg hj,if_neg hj]; exact ⟨_,rfl⟩
def qgc (K:Frag) (x:V) (H:Hp) (n:Nat):Prop:=
 match x with
 | .str y=>y.length<=sizeLine/\n=y.length
 | .byt y=>y.size<=sizeLine/\n=y.size
 | .ref p=>(∃ xs,SqL K H p xs/\n=xs.length)\/∃ xs,SqT K H p xs/\n=xs.length
 | _=>False
theorem gJ:um X (.builtin "len") (fun xs H Q=>∃ x n,xs=[x]/\qgc X.K x H n/\Q (.int n) H):=by
 intro pins s σ H xs us Q I r h
 obtain ⟨x,n,rfl,e,q⟩:=h
 obtain ⟨u,rfl,rx⟩:=xc r
 have hl:=gb
 have hs:sizeLine=16777216:=sizeLine_eq
 cases x with
 | str y=>
  obtain ⟨t,rfl⟩:=rx
  obtain ⟨hy,e'⟩:y.length<=sizeLine/\n=y.length:=e
  subst e'
  exact len_str (by omega) ⟨.int _,H,I.tok _,⟨_,rfl⟩,q⟩
 | byt y=>
  obtain ⟨t,rfl⟩:=rx
  obtain ⟨hy,e'⟩:y.size<=sizeLine/\n=y.size:=e
  subst e'
  exact PySem.W.len_bytes (by omega) ⟨.int _,H,I.tok _,⟨_,rfl⟩,q⟩
 | ref p=>
  cases rx
  have e':(∃ xs,SqL X.K H p xs/\n=xs.length)\/∃ xs,SqT X.K H p xs/\n=xs.length:=e
  rcases e' with ⟨xs,hx,e'⟩ | ⟨xs,hx,e'⟩
  ·subst e'
   obtain ⟨its,r',pl,hz⟩:=I.list hx
   have hlen:=r'.length
   exact Calls.call_len_list pl.isList (by simp only [ak]; omega) ⟨.int xs.length,H,I.tok _,⟨_,by simp only [ak]; rw [hlen]⟩,q⟩
  ·subst e'
   obtain ⟨its,r',pl,hz⟩:=I.tuple hx
   have hlen:=r'.length
   exact len_tuple pl (by simp only [ak]; omega) ⟨.int xs.length,H,I.tok _,⟨_,by simp only [ak]; rw [hlen]⟩,q⟩
 | _=>exact (show False from e).elim
end
structure ObjM (h:Heap) (x dx C:Addr) (mA:Str->Option Value):Prop where
 obj:h.get? x=some (cu C dx)
 ns:h.Ns1 dx mA
 ne:dx≠x
variable {dx:Addr} {mA:Str->Option Value}
theorem UO (n:h.Ns1 dx mA):∃ od,h.get? dx=some od/\∀ name,eR name od=some (mA name):=by
 obtain ⟨o,es,ep,ho,hd,hk,_,hm⟩:=n
 refine ⟨o,ho,fun name=>?_⟩
 have e:=hm name
 unfold nsFind findBy at e
 rw [<-Array.find?_toList] at e
 unfold eR
 rw [hd]
 dsimp only
 split
 ·rename_i y q
  rw [q] at e
  exact congrArg some e
 ·rename_i q
  rw [q] at e
  have a:es.toList.any (·.refKey)=false:=by
   rw [List.any_eq_false]
   intro y hy
   obtain ⟨z,t,hkey⟩:=hk y (Array.mem_toList_iff.mp hy)
   simp [DictEntry.refKey,hkey]
  have a':¬es.toList.any (·.refKey)=true:=by rw [a]; exact bX
  rw [if_neg a']
  exact congrArg some e
variable {C:Addr}
theorem ObjM.look {x:Addr} (I:ObjM h x dx C mA):∃ od,PySem.W.InstAt h x (cu C dx) C (some od)/\∀ name,eR name od=some (mA name):=
 let ⟨od,ho,hl⟩:=UO I.ns
 ⟨od,⟨I.obj,rfl,rfl,ho⟩,hl⟩
section
variable {prog:Program} {x f:Addr} {name:Str} {v:Value}
theorem qbl {expr:Bool} {Q:Value->Shared->Prop} (X:K.In s.heap) (I:ObjM s.heap x dx C mA) (hg:cS K C name=true) (hh:df K C=true)
  (ha:aK K (.ref C) name=some none) (hv:mA name=some v) (hv':PySem.W.handedIn v=true) (h:Q v { s with toks:=s.toks+1 }) :
  wpAny (model prog w) A (getAttr (.ref x) name expr) Q E s:=by
 obtain ⟨od,J,hl⟩:=I.look
 exact PySem.W.get_value X J (eL hg).1 (PySem.W.findObj_own hh ha rfl (by rw [hl,hv])) hv' h
theorem ZI {pl:Sem Bool} {Q:Value×List Value->Shared->Prop} (X:K.In s.heap) (I:ObjM s.heap x dx C mA) (hg:cS K C name=true)
  (hf:aK K (.ref C) name=some (some (.ref f))) (ht:cW K (.ref f)=true) (hv:mA name=none) (h:Q (.ref f,[.ref x]) s) :
  wpAny (model prog w) A (getMethod (.ref x) name pl) Q E s:=by
 obtain ⟨od,J,hl⟩:=I.look
 exact PySem.W.method_fn X J (eL hg).1 (eL hg).2 hf (beq_iff_eq.mp ht) (by show (eR name od).map (·.isSome)=some false; rw [hl,hv]; rfl) h
theorem qbm {ns:List Str} {Q:Unit->Shared->Prop} (X:K.In s.heap) (I:ObjM s.heap x dx C mA)
  (hs:aK K (.ref C) "__setattr__"=some (some (.builtin "object.__setattr__"))) (hp:dX K C=true) (ht:fq K C name=some none) (hh:df K C=true)
  (hw:fG mA ns) (hsz:ns.length<=sizeLine)
  (h:∀ h',ObjM h' x dx C (fun y=>if y=name then some v else mA y)->bA dx s.heap h'->Q () { s with heap:=h',toks:=s.toks+2 }) :
  wpAny (model prog w) A (setAttr (.ref x) name v) Q E s:=by
 obtain ⟨od,J,hl⟩:=I.look
 refine PySem.W.set_plain X J hs (PySem.W.osa_open (s:={ s with toks:=s.toks+1 }) (r:=none) X J hp ht fun b=>?_)
 obtain ⟨cd,hc,hd'⟩:=PySem.W.any_some hh
 have hx:s.heap.get? x=some ⟨.ref C,some dx,.plain,#[]⟩:=I.obj
 refine wpAny_bind (wpAny_pure (wpAny_bind (wpAny_bind (wpAny_loadPart hx (wpAny_bind (PySem.W.Looks.here (s:={ s with toks:=s.toks+1 }) (PySem.W.looks_clsIn X hc) ?_))))))
 rw [hd']
 refine wpAny_pure (a:=some dx) (wpAny_bind (wpAny_pure (wpAny_bind ?_)))
 refine wpAny_nsSet1 (s:={ s with toks:=s.toks+1 }) I.ns fun h' hn2 hs2=>?_
 obtain ⟨oD,esD,epD,hoD,hdD,hcD⟩:=hn2.count (PySem.Within.cons name v hw)
 refine wpAny_bind (wpAny_lookBehind hoD (by rw [hdD]; exact pastItsLine_dict (bW hcD (by rw [ae]; omega))) ?_)
 exact wpAny_pure (h _ ⟨(hs2.2 _ (aX I.ne)).trans I.obj,hn2,I.ne⟩ hs2)
theorem ZJ {R:Result->Shared->Prop} {vs:List Value} {kw:List (Str×Value)} (X:K.In s.heap) (hm:fy K C=true)
  (hi:aK K (.ref C) "__init__"=some (some (.ref f))) (hf:PySem.W.typeIn K (.ref f)=some (.type "function"))
  (h:codeAny (model prog w) (A.under (.builtin "type.__call__" ⟨.ref C::vs,kw⟩)) (.call (.ref f) ⟨.ref (s.heap.objs.size+1)::vs,kw⟩) (PySem.W.InitBack (s.heap.objs.size+1) R)
   { s with heap:=(s.heap.push bS).push (cu C s.heap.objs.size) }) :
  codeAny (model prog w) A (.call (.ref C) ⟨vs,kw⟩) R s:=by
 obtain ⟨hh,g,d,t,os⟩:=s
 exact PySem.W.make_core (PySem.W.makes_of X hm) (PySem.W.looks_findIn X hi) (fun self=>PySem.W.bind_fn X self hf) (.inl rfl) h
end
noncomputable def xC (f:Str) (v:V):List (Str×V)->List (Str×V)
 | []=>[(f,v)]
 | (g,x)::r=>if g=f then (g,v)::r else (g,x)::xC f v r
theorem uz (f g:Str) (v:V):∀ fs:List (Str×V),(xC f v fs).lookup g=if g=f then some v else fs.lookup g
 | []=>by
  show cf g [(f,v)]=_
  by_cases h:g=f
  ·have hb:(g == f)=true:=beq_iff_eq.mpr h
   simp only [cf,hb,if_pos h]
  ·have hb:(g == f)=false:=beq_eq_false_iff_ne.mpr h
   simp only [cf,hb,if_neg h]
 | (k,x)::r=>by
  have ih:=uz f g v r
  rw [show xC f v ((k,x)::r)=(if k=f then (k,v)::r else (k,x)::xC f v r) from rfl]
  by_cases hk:k=f
  ·rw [if_pos hk]
   by_cases h:g=k
   ·have hb:(g == k)=true:=beq_iff_eq.mpr h
    simp only [cf,hb,if_pos (h.trans hk)]
   ·have hb:(g == k)=false:=beq_eq_false_iff_ne.mpr h
    simp only [cf,hb,if_neg (fun e:g=f=>h (e.trans hk.symm))]
  ·rw [if_neg hk]
   by_cases h:g=k
   ·have hb:(g == k)=true:=beq_iff_eq.mpr h
    simp only [cf,hb,if_neg (fun e:g=f=>hk (h.symm.trans e))]
   ·have hb:(g == k)=false:=beq_eq_false_iff_ne.mpr h
    simp only [cf,hb]
    exact ih
theorem xD (f:Str) (v:V):∀ fs:List (Str×V),f∈(xC f v fs).map (·.1)/\∀ g,g∈fs.map (·.1)->g∈(xC f v fs).map (·.1)
 | []=>⟨by simp [xC],fun g h=>by simp at h⟩
 | (k,x)::r=>by
  obtain ⟨i1,i2⟩:=xD f v r
  rw [show xC f v ((k,x)::r)=(if k=f then (k,v)::r else (k,x)::xC f v r) from rfl]
  by_cases hk:k=f
  ·rw [if_pos hk]
   subst hk
   exact ⟨by simp,fun g h=>by simpa using h⟩
  ·rw [if_neg hk]
   refine ⟨?_,fun g h=>?_⟩
   ·rw [aA]
    exact af _ i1
   ·rw [aA] at h ⊢
    rcases ac.mp h with e | e
    ·exact ac.mpr (.inl e)
    ·exact af _ (i2 g e)
theorem xE (f:Str) (v:V):∀ fs:List (Str×V),(xC f v fs).length<=fs.length+1
 | []=>by simp [xC]
 | (k,x)::r=>by
  have ih:=xE f v r
  rw [show xC f v ((k,x)::r)=(if k=f then (k,v)::r else (k,x)::xC f v r) from rfl]
  by_cases hk:k=f
  ·rw [if_pos hk,ae,ae]; omega
  ·rw [if_neg hk,ae,ae]; omega
theorem RelO.some_of {o:Option Value} (r:RelO (some v) o):∃ u,o=some u/\RelV v u:=by
 cases o with
 | none=>exact (show False from r).elim
 | some u=>exact ⟨u,rfl,r⟩
theorem RelO.none_of {o:Option Value} (r:RelO none o):o=none:=by
 cases o with
 | none=>rfl
 | some u=>exact (show False from r).elim
theorem UP (r:RelV v u):PySem.W.handedIn u=true:=by
 cases v with
 | non=>cases (show u=ck from r); rfl
 | bl b=>cases (show u=cV b from r); rfl
 | int i=>obtain ⟨t,e⟩:=(show ∃ t,u=c6 i t from r); cases e; rfl
 | str x=>obtain ⟨t,e⟩:=(show ∃ t,u=e9 x t from r); cases e; rfl
 | byt b=>obtain ⟨t,e⟩:=(show ∃ t,u=Value.bytes b t from r); cases e; rfl
 | flt b=>obtain ⟨t,e⟩:=(show ∃ t,u=Value.float b t from r); cases e; rfl
 | ref a=>cases (show u=bQ a from r); rfl
 | ty n=>cases (show u=fD n from r); rfl
section
variable {fs fs':List (Str×V)}
theorem Kn (hok:HOk P w H h) (e:H a=some (.ins C dx fs)):∃ mA,ObjM h a dx C mA/\(∀ f,RelO (fs.lookup f) (mA f))/\fG mA (fs.map (·.1))/\fs.length<=1000/\H dx=some (.own a):=by
 obtain ⟨d,z,ne,ob,mA,n,r,q⟩:=(show ObjOk P w H h a (.ins C dx fs) from hok a _ e)
 exact ⟨mA,⟨ob,n,ne⟩,r,q,z,d⟩
end
structure Cls (K:Frag) (C:Addr):Prop where
 pg:cS K C Str.empty=true
 hd:df K C=true
 po:dX K C=true
 sa:aK K (.ref C) "__setattr__"=some (some (.builtin "object.__setattr__"))
theorem Cls.get (c:Cls K C) (f:Str):cS K C f=true:=c.pg
def NoAttr (K:Frag) (C:Addr) (f:Str):Prop:=aK K (.ref C) f=some none
variable {f:Str}
theorem NoAttr.taker (n:NoAttr K C f):fq K C f=some none:=by
 unfold fq
 rw [show aK K (.ref C) f=some none from n]
 rfl
structure Meth (K:Frag) (C:Addr) (m:Str) (f:Addr):Prop where
 at_:aK K (.ref C) m=some (some (.ref f))
 fn:cW K (.ref f)=true
 kp:keepIn K (.ref f)=true
variable {m:Str}
section
variable {fs:List (Str×V)}
theorem WV {b:Bool} {Q:Value->Shared->Prop} (I:Inv X pins σ H s) (e:H a=some (.ins C dx fs)) (c:Cls X.K C) (n:NoAttr X.K C f) (l:fs.lookup f=some v)
  (h:∀ u s',Inv X pins σ H s'->RelV v u->Q u s'):wpAny (model X.prog X.w) A (getAttr (.ref a) f b) Q E s:=by
 obtain ⟨mA,O,r,_,_,_⟩:=Kn I.hok e
 obtain ⟨u,hu,ru⟩:=RelO.some_of (v:=v) (o:=mA f) (by rw [<-l]; exact r f)
 exact qbl I.kIn O (c.get f) c.hd n hu (UP ru) (h u _ (I.tok _) ru)
theorem gc {g:Addr} {pl:Sem Bool} {Q:Value×List Value->Shared->Prop} (I:Inv X pins σ H s) (e:H a=some (.ins C dx fs)) (c:Cls X.K C) (k:Meth X.K C m g) (l:fs.lookup m=none)
  (h:Q (.ref g,[.ref a]) s):wpAny (model X.prog X.w) A (getMethod (.ref a) m pl) Q E s:=by
 obtain ⟨mA,O,r,_,_,_⟩:=Kn I.hok e
 have hn:mA m=none:=RelO.none_of (by rw [<-l]; exact r m)
 exact ZI I.kIn O (c.get m) k.at_ k.fn hn h
theorem WW {Q:Unit->Shared->Prop} (I:Inv X pins σ H s) (e:H a=some (.ins C dx fs)) (c:Cls X.K C) (n:NoAttr X.K C f) (hl:fs.length < 1000) (ry:RelV y u)
  (h:∀ s',Inv X pins σ (upd H a (.ins C dx (xC f y fs))) s'->Q () s'):wpAny (model X.prog X.w) A (setAttr (.ref a) f u) Q E s:=by
 obtain ⟨mA,O,r,wi,_,ho⟩:=Kn I.hok e
 have hz:(fs.map (·.1)).length<=sizeLine:=by rw [aG,sizeLine_eq]; omega
 refine qbm I.kIn O c.sa c.po n.taker c.hd wi hz fun h' O' sb=>h _ ?_
 have hd:∃ o,h'.get? dx=some o:=let ⟨o,_,_,e',_⟩:=O'.ns; ⟨o,e'⟩
 refine I.write (x:=a) (e:=dx) (by rw [e]; exact dP) (.inr ho) (fun b q hb z=>(sb.2 b hb).trans z) hd ?_
 refine ⟨by rw [qr O.ne]; exact ho,?_,O.ne,O'.obj,_,O'.ns,fun g=>?_,fun g hg=>?_⟩
 ·have:=xE f y fs; omega
 ·show RelO ((xC f y fs).lookup g) (if g=f then some u else mA g)
  rw [uz]
  by_cases q:g=f
  ·rw [if_pos q,if_pos q]; exact ry
  ·rw [if_neg q,if_neg q]; exact r g
 ·by_cases q:g=f
  ·rw [q]; exact (xD f y fs).1
  ·refine (xD f y fs).2 g (wi g fun z=>hg ?_)
   show (if g=f then some u else mA g)=none
   rw [if_neg q]; exact z
theorem Inv.made (I:Inv X pins σ H s):Inv X pins σ (upd (upd H s.heap.objs.size (.own (s.heap.objs.size+1))) (s.heap.objs.size+1) (.ins C s.heap.objs.size []))
  { s with heap:=(s.heap.push bS).push (cu C s.heap.objs.size) }:=by
 have e1:(s.heap.push bS).get? s.heap.objs.size=some bS:=ag s.heap rfl
 have e2:((s.heap.push bS).push (cu C s.heap.objs.size)).get? (s.heap.objs.size+1)=some (cu C s.heap.objs.size):=by
  have:=ag (s.heap.push bS) (o:=cu C s.heap.objs.size) rfl
  rwa [bT] at this
 have e3:(s.heap.push bS).Ns s.heap.objs.size (fun _=>none):=⟨bS,#[],_,e1,rfl,(fun e he=>absurd he (by simp)),fun _=>rfl⟩
 have I1:=I.laid (a:=s.heap.objs.size) (o:=.own (s.heap.objs.size+1)) (h':=s.heap.push bS) (t':=s.toks) (fun b u q=>aa _ q) (ax _) ⟨_,e1⟩
 refine I1.laid (a:=s.heap.objs.size+1) (o:=.ins C s.heap.objs.size []) (t':=s.toks) (fun b u q=>aa _ q) (dY (bT _ _)) ?_
 have ne:s.heap.objs.size≠s.heap.objs.size+1:=ay (eC _)
 refine ⟨by rw [qr ne,qm],bt _,ne,e2,fun _=>none,(Heap.Ns1.of_empty e3).at fun o q=>aa _ q,fun _=>dP,fun y hy=>absurd rfl hy⟩
theorem qbn {prog:Program} {w:World} {env:Env} {f:Str} {pos:Pos} {s:Shared} {Q:Value->Shared->Prop} (hb:attributeBase e f env (eval e env)=eval e env)
  (h:wpAny (model prog w) A (eval e env) (fun o s₁=>wpAny (model prog w) A (getAttr o f true) Q E s₁) E s):wpAny (model prog w) A (eval (.Attribute e f pos) env) Q E s:=
 Attribute_any_ h (by rw [arm_eval_Attribute,hb])
end
def qgd (K:Frag) (ta:TE) (f:Str):TE:=fun σ H Q=>ta σ H fun x H1=>∃ a C dx fs v,x=.ref a/\H1 a=some (.ins C dx fs)/\Cls K C/\NoAttr K C f/\fs.lookup f=some v/\Q v H1
def qeZ (K:Frag) (ta tv:TE) (f:Str):TS:=fun D σ H=>tv σ H fun y H1=>ta σ H1 fun x H2=>∃ a C dx fs,x=.ref a/\H2 a=some (.ins C dx fs)/\Cls K C/\NoAttr K C f/\fs.length < 1000 /\
 D.nx σ (upd H2 a (.ins C dx (xC f y fs)))
section
variable {o value:Expr} {tpos:Pos} {tv:TE}
theorem qax (he:PE X e ta) (hb:attributeBase e f X.env (eval e X.env)=eval e X.env):PE X (.Attribute e f pos) (qgd X.K ta f):=by
 refine ⟨?_⟩
 intro pins s σ H Q I h
 refine qbn hb (thn (he pins s σ H _ I h) fun u s1 ⟨x,H1,I1,rx,a,C,dx,fs,v,ex,ea,c,n,l,q⟩=>?_)
 subst ex
 obtain rfl:u=bQ a:=rx
 exact WV I1 ea c n l fun u' s2 I2 ru=>⟨v,H1,I2,ru,q⟩
theorem UQ (ha:PE X o ta) (hv:PE X value tv) (hs:swapsWith value (some (.Attribute o f pos')) pos.line X.env=pure false):PS X (.Assign [.Attribute o f pos'] value pos) (qeZ X.K ta tv f):=by
 refine ⟨?_⟩
 intro pins s σ H D I h
 refine plainObj_wpAny_Assign_Attribute (thn (hv pins s σ H _ I h) fun u s1 ⟨y,H1,I1,ry,q⟩=>thn (ha pins s1 σ H1 _ I1 q) fun ov s2 ⟨x,H2,I2,rx,a,C,dx,fs,ex,ea,c,n,l,q2⟩=>?_) hs
 subst ex
 obtain rfl:ov=bQ a:=rx
 exact WW I2 ea c n l ry fun s3 I3=>⟨σ,_,I3,q2⟩
end
structure Room (k:Nat) (A:Around):Prop where
 hd:A.handled=none
 dp:A.depth+3 * k+5 < recursionLimit
 un:A.units+16 * k+200 < cLine
theorem Room.mono {k:Nat} (r:Room k A) (h:j<=k):Room j A:=⟨r.hd,by have:=r.dp; omega,by have:=r.un; omega⟩
theorem Room.deeper {k:Nat} (r:Room (k+1) A) (env:Env):Room k (A.deeper env):=
 ⟨r.hd,by have:=r.dp; show A.depth+1+3 * k+5 < _; omega,by have:=r.un; show A.units+3+16 * k+200 < _; omega⟩
theorem Room.in1 {k:Nat} (r:Room (k+1) A):Room k A.in1:=
 ⟨r.hd,by have:=r.dp; show A.depth+3 * k+5 < _; omega,by have:=r.un; show A.units+1+16 * k+200 < _; omega⟩
variable {kw:List (Str×Value)}
theorem WX:(A.under (.builtin "type.__call__" ⟨.ref C::us,kw⟩)).depth=A.depth+1:=by
 first | rfl | simp [fH,Code.weight,Code.isCreation,Code.isGuard,Code.isCaller,Code.frames,fI,guardIds]
theorem WY:(A.under (.builtin "type.__call__" ⟨.ref C::us,kw⟩)).units=A.units+1:=by
 first | rfl | simp [fH,Code.cUnits,Code.frames,fI]
theorem Room.make {k:Nat} (r:Room (k+1) A) (C:Addr) (us:List Value) (kw:List (Str×Value)):Room k (A.under (.builtin "type.__call__" ⟨.ref C::us,kw⟩)):=
 ⟨r.hd,by have:=r.dp; rw [WX]; omega,by have:=r.un; rw [WY]; omega⟩
theorem Room.depth {k:Nat} (r:Room k A):A.depth < recursionLimit:=by have:=r.dp; omega
theorem Room.units {k:Nat} (r:Room k A):A.units+64 < cLine:=by have:=r.un; omega
def qeu:TA:=fun _ H Q=>Q [] H
def ZK (ta:TE) (tr:TA):TA:=fun σ H Q=>ta σ H fun x H1=>tr σ H1 fun xs H2=>Q (x::xs) H2
section
variable {t:TA}
theorem jZ:PA X [] qeu:=⟨fun _ _ _ _ H Q I h=>Calls.spliced_nil ⟨[],H,I,.nil,h⟩⟩
theorem qV (ha:PE X e te) (hr:PA X es t) (hs:starEach (e::es) X.env=(false,eval e X.env)::starEach es X.env:=by rfl):PA X (e::es) (ZK te t):=by
 refine ⟨?_⟩
 intro pos pins s σ H Q I h
 rw [hs]
 show wpAny _ _ (spliced ((false,eval e X.env)::backTo pos (starEach es X.env))) _ _ s
 refine Calls.spliced_cons (thn (ha pins s σ H _ I h) fun u s1 ⟨x,H1,I1,r1,q1⟩=>?_)
 exact thn (hr pos pins s1 σ H1 _ I1 q1) fun us s2 ⟨xs,H2,I2,r2,q2⟩=>⟨x::xs,H2,I2,.cons r1 r2,q2⟩
def qge (t:TA):TE:=fun σ H Q=>t σ H fun xs H1=>xs.length<=sizeLine/\∀ p,H1 p=none->Q (.ref p) (upd H1 p (.tup xs))
def qgf (t:TA):TE:=fun σ H Q=>t σ H fun xs H1=>xs.length<=sizeLine/\∀ p,H1 p=none->Q (.ref p) (upd H1 p (.lst xs))
theorem qda {x1} (h:PA X es t):PE X (.Tuple es x1 pos) (qge t):=by
 refine ⟨?_⟩
 intro pins s σ H Q I hq
 refine wpAny_Tuple_spliced (thn (h pos pins s σ H _ I hq) fun us s1 ⟨xs,H1,I1,r,z,q⟩=>⟨by rw [<-r.length]; exact z,?_⟩)
 have hf:H1 s1.heap.objs.size=none:=I1.hok.fresh (ax _)
 refine ⟨.ref s1.heap.objs.size,upd H1 s1.heap.objs.size (.tup xs),I1.laid (t':=s1.toks) (fun b u e=>aa _ e) (ax _) ?_,rfl,q _ hf⟩
 exact ⟨⟨z,_,ag _ rfl,rfl⟩,us,r,⟨_,ag _ rfl,rfl,_,rfl⟩⟩
theorem qdb (h:PA X es t):PE X (.List es pos) (qgf t):=by
 refine ⟨?_⟩
 intro pins s σ H Q I hq
 refine wpAny_List_spliced (thn (h pos pins s σ H _ I hq) fun us s1 ⟨xs,H1,I1,r,z,q⟩=>⟨by rw [<-r.length]; exact z,?_⟩)
 have hf:H1 s1.heap.objs.size=none:=I1.hok.fresh (ax _)
 refine ⟨.ref s1.heap.objs.size,upd H1 s1.heap.objs.size (.lst xs),I1.laid (t':=s1.toks) (fun b u e=>aa _ e) (ax _) ?_,rfl,q _ hf⟩
 exact ⟨z,us,0,r,ag _ rfl⟩
end
abbrev Sp:=List V->Hp->VK->XK->Prop
abbrev CXT:=List Env->Hp->Shared->XK->Value->Shared->Prop
structure Env0 (P:Program) (w:World) (K:Frag) (mg:Str->Option Value) (base:Heap) (A:Around) (outer:List Env) (s:Shared) (H:Hp):Prop where
 frames:A.frames=some outer
 mod:Mod K mg base
 bs:∀ b o,base.get? b=some o->s.heap.get? b=some o/\H b=none
 bsz:base.objs.size<=s.heap.objs.size
 funs:s.heap.FunFrames base outer
 frf:∀ b∈frs outer,H b=none
 hok:HOk P w H s.heap
 bare:AllBare s.gens
def CE (outer:List Env) (P:Program) (w:World) (H:Hp) (s:Shared) (Q:VK) (u:Value) (s':Shared):Prop:=
 ∃ v H',s'.os=s.os/\AllBare s'.gens/\Un (frs outer) [] H H' s.heap s'.heap/\HOk P w H' s'.heap/\RelV v u/\Q v H'
def CR (CX:CXT) (outer:List Env) (P:Program) (w:World) (H:Hp) (s:Shared) (Q:VK) (E:XK) (r:Result) (s':Shared):Prop:=
 match r with
 | .ok (.ret u)=>CE outer P w H s Q u s'
 | .ok _=>False
 | .error e=>CX outer H s E e s'
structure FnOk (P:Program) (w:World) (K:Frag) (mg:Str->Option Value) (base:Heap) (CX:CXT) (k:Nat) (f:Addr) (fd:FuncData) (ps:List Str) (sp:Sp):Prop where
 len:∀ vs H Q E,sp vs H Q E->vs.length=ps.length
 run:∀ (A:Around) (outer:List Env) (s:Shared) (H:Hp) (args:Args) (us:List Value) (vs:List V) (Q:VK) (E:XK),Room k A->Env0 P w K mg base A outer s H->BindsTo s fd args (ps.zip us)->Vals vs us->sp vs H Q E ->
  codeAny (model P w) A (.call (.ref f) args) (CR CX outer P w H s Q E) s
variable {mg:Str->Option Value} {base:Heap} {CX:CXT} {fd:FuncData} {ps:List Str} {sp:Sp}
theorem FnOk.imp {k:Nat} {f:Addr} {sp':Sp} (F:FnOk P w K mg base CX k f fd ps sp)
  (h:∀ vs H Q E,sp' vs H Q E->sp vs H Q E):FnOk P w K mg base CX k f fd ps sp':=
 ⟨fun vs H Q E q=>F.len vs H Q E (h _ _ _ _ q),fun A outer s H args us vs Q E hr he hb hv hs=>F.run A outer s H args us vs Q E hr he hb hv (h _ _ _ _ hs)⟩
variable {outer:List Env}
theorem Env0.make (e:Env0 P w K mg base A outer s H) (C:Addr) (us:List Value) (kw:List (Str×Value)) :
  Env0 P w K mg base (A.under (.builtin "type.__call__" ⟨.ref C::us,kw⟩)) outer s H:=⟨by first | exact e.frames | (simpa [fH,Code.envs,fI,pushEnvs] using e.frames),e.mod,e.bs,e.bsz,e.funs,e.frf,e.hok,e.bare⟩
theorem Env0.in1 (e:Env0 P w K mg base A outer s H) :
  Env0 P w K mg base A.in1 outer s H:=⟨e.frames,e.mod,e.bs,e.bsz,e.funs,e.frf,e.hok,e.bare⟩
section
theorem Inv.env0 (I:Inv X pins σ H s):Env0 X.prog X.w X.K X.mg X.base X.A X.stack s H:=
 ⟨I.ok.frames,I.ok.mod,I.bs,bW I.ok.bsz I.sz,I.stack,I.stkFree,I.hok,I.bare⟩
theorem Inv.after {Q:VK} (I:Inv X pins σ H s) (h:CE X.stack X.prog X.w H s Q u s'):EP X pins σ Q u s':=by
 obtain ⟨v,H',os,bare,un,hok,r,q⟩:=h
 obtain ⟨hh,g,d,t,os'⟩:=s'
 obtain rfl:os'=s.os:=os
 exact ⟨v,H',I.call (h':=hh) (g':=g) (d':=d) (t':=t) (ch:=[]) un hok bare (fun b z=>absurd z (by simp)),r,q⟩
end
def qe0 (sp:Sp) (dvs:List V) (E:XK) (t:TA):TE:=fun σ H Q=>t σ H fun vs H1=>sp (vs++dvs) H1 Q E
def qdc (C:Addr) (m:Str) (sp:Sp) (dvs:List V) (E:XK) (ta:TE) (t:TA):TE:=fun σ H Q=>ta σ H fun x H1=>∃ a dx fs,x=.ref a/\H1 a=some (.ins C dx fs)/\fs.lookup m=none /\
 t σ H1 fun vs H2=>sp (x::(vs++dvs)) H2 Q E
def qe1 (C:Addr) (sp:Sp) (dvs:List V) (E:XK) (t:TA):TE:=fun σ H Q=>t σ H fun vs H1=>∀ x dx,H1 x=none->H1 dx=none->dx≠x ->
 sp (.ref x::(vs++dvs)) (upd (upd H1 dx (.own x)) x (.ins C dx [])) (fun v H2=>v=.non/\Q (.ref x) H2) E
def Binds (K:Frag) (fd:FuncData) (ps:List Str) (ds:List Value):Prop:=
 ∀ (s:Shared) (us:List Value),K.In s.heap->(us++ds).length=ps.length->BindsTo s fd ⟨us,[]⟩ (ps.zip (us++ds))
theorem Binds.all (h:∀ us:List Value,us.length=ps.length->bindArgs fd ⟨us,[]⟩=pure (ps.zip us)):Binds K fd ps []:=fun s us _ hl=>by
 rw [bi] at hl ⊢
 exact .of_eq (h us hl)
def kC (CX:CXT) (X:Cx) (E:XK):Prop:=∀ (pins:List (Addr×Obj)) (σ:St) (H:Hp) (s:Shared) (e:Value) (s':Shared),Inv X pins σ H s->CX X.stack H s E e s'->X.xe e s'
variable {apos:Pos}
section
variable {k:Nat} {f:Addr} {dvs:List V} {ds:List Value} {E:XK} {o:Expr} {t:TA}
theorem UR {pins:List (Addr×Obj)} {σ:St} {H:Hp} {s:Shared} {Q:VK} {us:List Value} {vs:List V} (F:FnOk X.prog X.w X.K X.mg X.base CX k f fd ps sp) (hr:Room k X.A) (hb:Binds X.K fd ps ds) (hd:Vals dvs ds) (hx:kC CX X E)
  (I:Inv X pins σ H s) (r:Vals vs us) (h:sp (vs++dvs) H Q E):wpAny (model X.prog X.w) X.A (call (.ref f) us) (EP X pins σ Q) X.xe s:=by
 have r2:Vals (vs++dvs) (us++ds):=r.append hd
 have hl:(us++ds).length=ps.length:=by rw [<-r2.length]; exact F.len _ _ _ _ h
 refine wpAny_call (codeAny_mono (F.run X.A X.stack s H ⟨us,[]⟩ (us++ds) (vs++dvs) Q E hr I.env0 (hb s us I.kIn hl) r2 h) fun r s' hq=>?_)
 cases r with
 | error e=>exact hx pins σ H s e s' I hq
 | ok fl=>
  cases fl with
  | ret u=>exact I.after hq
  | next=>exact cC hq
  | brk=>exact cC hq
  | cont=>exact cC hq
theorem qbo (F:FnOk X.prog X.w X.K X.mg X.base CX k f fd ps sp) (hr:Room k X.A) (hg:Gl X x) (hm:X.mg x=some (.ref f)) (hk:keepIn X.K (.ref f)=true) (hb:Binds X.K fd ps ds) (hd:Vals dvs ds) (hx:kC CX X E)
  (ha:PA X (e::es) t) (hdb:(x == ("__debug__":Str))=false:=by decide) (he:starEach (e::es) X.env=(false,eval e X.env)::starEach es X.env:=by rfl) (hpl:(backTo pos (starEach es X.env)).any (·.1)=false:=by rfl) :
  PE X (.Call (.Name x p) (e::es) [] pos) (qe0 sp dvs E t):=by
 refine ⟨?_⟩
 intro pins s σ H Q I h
 refine wpAny_Call_Name_kw (xB I hg hm ?_ hdb)
 refine eS (h₀:=X.base) I.ok.mod.kin hk (thn (ha pos pins s σ H _ I h) fun us s1 ⟨vs,H1,I1,r,q⟩=>⟨I1.kIn,?_⟩) he hpl
 exact UR F hr hb hd hx I1 r q
theorem US {pl:Sem Bool} (he:PE X o ta) (c:Cls X.K C) (hm:Meth X.K C m f) (F:FnOk X.prog X.w X.K X.mg X.base CX k f fd ps sp) (hr:Room k X.A) (hb:Binds X.K fd ps ds) (hd:Vals dvs ds) (hx:kC CX X E) (ha:PA X (e::es) t)
  (hst:starEach (e::es) X.env=(false,eval e X.env)::starEach es X.env:=by rfl) (hpl:(backTo pos (starEach es X.env)).any (·.1)=false:=by rfl)
  (ht:eval (.Call (.Attribute o m apos) (e::es) [] pos) X.env=(do
   let ov <-eval o X.env
   standAt apos.atName
   let (f,first) <-holding [ov] (getMethod ov m pl)
   callWith pos f first (backTo pos (starEach (e::es) X.env)) (backToKw pos (keywordEach [] X.env))):=by rfl) :
  PE X (.Call (.Attribute o m apos) (e::es) [] pos) (qdc C m sp dvs E ta t):=by
 refine ⟨?_⟩
 intro pins s σ H Q I h
 refine PySem.W.methodCall_KW (pl:=pl) (thn (he pins s σ H _ I h) fun u s1 ⟨x,H1,I1,rx,a,dx,fs,ex,ea,l,q⟩=>?_) ht
 subst ex
 obtain rfl:u=bQ a:=rx
 refine gc I1 ea c hm l ?_
 refine eS (first:=[.ref a]) (h₀:=X.base) I.ok.mod.kin hm.kp (thn (ha pos pins s1 σ H1 _ I1 q) fun us s2 ⟨vs,H2,I2,r,q2⟩=>⟨I2.kIn,?_⟩) hst hpl
 exact UR (us:=.ref a::us) (vs:=.ref a::vs) F hr hb hd hx I2 (.cons rfl r) q2
theorem VL {pl:Sem Bool} (he:PE X o ta) (c:Cls X.K C) (hm:Meth X.K C m f) (F:FnOk X.prog X.w X.K X.mg X.base CX k f fd ps sp) (hr:Room k X.A) (hb:Binds X.K fd ps ds) (hd:Vals dvs ds) (hx:kC CX X E)
  (ht:eval (.Call (.Attribute o m apos) [] [] pos) X.env=(do
   let ov <-eval o X.env
   standAt apos.atName
   let (f,first) <-holding [ov] (getMethod ov m pl)
   callWith pos f first (backTo pos (starEach [] X.env)) (backToKw pos (keywordEach [] X.env))):=by rfl) :
  PE X (.Call (.Attribute o m apos) [] [] pos) (qdc C m sp dvs E ta qeu):=by
 refine ⟨?_⟩
 intro pins s σ H Q I h
 refine PySem.W.methodCall_KW (pl:=pl) (thn (he pins s σ H _ I h) fun u s1 ⟨x,H1,I1,rx,a,dx,fs,ex,ea,l,q⟩=>?_) ht
 subst ex
 obtain rfl:u=bQ a:=rx
 refine gc I1 ea c hm l ?_
 exact PySem.W.callWith_K0 (first:=[.ref a]) I1.kIn hm.kp (UR (us:=[.ref a]) (vs:=[.ref a]) F hr hb hd hx I1 (.cons rfl .nil) q)
structure Mk (K:Frag) (C f:Addr):Prop where
 makes:fy K C=true
 init:aK K (.ref C) "__init__"=some (some (.ref f))
 fn:cW K (.ref f)=true
 kp:keepIn K (.ref C)=true
theorem ZL {pins:List (Addr×Obj)} {σ:St} {H:Hp} {s:Shared} {Q:VK} {us:List Value} {vs:List V} (M:Mk X.K C f) (F:FnOk X.prog X.w X.K X.mg X.base CX k f fd ps sp) (hr:Room (k+1) X.A) (hb:Binds X.K fd ps ds) (hd:Vals dvs ds)
  (hx:kC CX X E) (I:Inv X pins σ H s) (r:Vals vs us)
  (h:∀ x dx,H x=none->H dx=none->dx≠x->sp (.ref x::(vs++dvs)) (upd (upd H dx (.own x)) x (.ins C dx [])) (fun v H2=>v=.non/\Q (.ref x) H2) E) :
  wpAny (model X.prog X.w) X.A (call (.ref C) us) (EP X pins σ Q) X.xe s:=by
 have hq:=h (s.heap.objs.size+1) s.heap.objs.size (I.hok.fresh (eV _)) (I.hok.fresh (ax _)) (ay (eC _))
 have I2:=Inv.made (C:=C) I
 have r2:Vals (V.ref (s.heap.objs.size+1)::(vs++dvs)) (bQ (s.heap.objs.size+1)::(us++ds)):=.cons rfl (r.append hd)
 have hl:(bQ (s.heap.objs.size+1)::us++ds).length=ps.length:=by
  have e:=r2.length
  rw [F.len _ _ _ _ hq] at e
  exact e.symm
 refine wpAny_call (ZJ (f:=f) I.kIn M.makes M.init (beq_iff_eq.mp M.fn) (codeAny_mono (F.run _ X.stack _ _ ⟨bQ (s.heap.objs.size+1)::us,[]⟩ (bQ (s.heap.objs.size+1)::(us++ds)) _ _ E (hr.make C us [])
  (I2.env0.make C us []) (hb _ (bQ (s.heap.objs.size+1)::us) I2.kIn hl) r2 hq) fun r s' hq'=>?_))
 cases r with
 | error e=>exact hx pins σ _ _ e s' I2 hq'
 | ok fl=>
  cases fl with
  | ret u=>
   obtain ⟨v,H',I3,rv,ev,q3⟩:=I2.after hq'
   subst ev
   exact ⟨rv,⟨V.ref (s.heap.objs.size+1),H',I3,rfl,q3⟩⟩
  | next=>exact cC hq'
  | brk=>exact cC hq'
  | cont=>exact cC hq'
theorem qbp (M:Mk X.K C f) (F:FnOk X.prog X.w X.K X.mg X.base CX k f fd ps sp) (hr:Room (k+1) X.A) (hg:Gl X x) (hm:X.mg x=some (.ref C)) (hb:Binds X.K fd ps ds) (hd:Vals dvs ds) (hx:kC CX X E)
  (ha:PA X (e::es) t) (hdb:(x == ("__debug__":Str))=false:=by decide) (he:starEach (e::es) X.env=(false,eval e X.env)::starEach es X.env:=by rfl) (hpl:(backTo pos (starEach es X.env)).any (·.1)=false:=by rfl) :
  PE X (.Call (.Name x p) (e::es) [] pos) (qe1 C sp dvs E t):=by
 refine ⟨?_⟩
 intro pins s σ H Q I h
 refine wpAny_Call_Name_kw (xB I hg hm ?_ hdb)
 refine eS (h₀:=X.base) I.ok.mod.kin M.kp (thn (ha pos pins s σ H _ I h) fun us s1 ⟨vs,H1,I1,r,q⟩=>⟨I1.kIn,?_⟩) he hpl
 exact ZL M F hr hb hd hx I1 r q
end
section
variable {k:Nat} {f:Addr} {ks:List Str} {E:XK} {kpos:Pos} {o:Expr} {kws:List Keyword} {t tk:TA} {nm:Option Str}
variable {g:List Value->List Value->List Value} {gV:List V->List V->List V}
end
structure FnScope (N P:List Str) (sc:Scope):Prop where
 kind:sc.kind=.function
 co:sc.isCoroutine=false
 gen:sc.isGenerator=false
 nd:N.Nodup
 pre:N.take P.length=P
 par:∀ x∈P,sc.names.lookup x=some .local\/sc.names.lookup x=some .cell
 nofree:∀ y∈sc.names,y.2≠.free
variable {kindOf:Str->Option NameKind}
theorem QQ:∀ {binds:List (Str×Value)} {m:Str->Option Value},(∀ v,(x,v)∉binds)->bindL kindOf binds m x=m x
 | [],_,_=>rfl
 | (n,v)::r,m,h=>by
  unfold bindL
  rw [QQ fun w hw=>h w (af _ hw)]
  split
  ·have:x≠n:=by rintro rfl; exact h v aw
   simp [this]
  ·rfl
theorem QR:∀ {binds:List (Str×Value)} {m:Str->Option Value},(∀ v,(x,v)∉binds)->bindC kindOf binds m x=m x
 | [],_,_=>rfl
 | (n,v)::r,m,h=>by
  unfold bindC
  rw [QR fun w hw=>h w (af _ hw)]
  split
  ·rfl
  ·have:x≠n:=by rintro rfl; exact h v aw
   simp [this]
theorem QS {kindOf:Str->Option NameKind} {x:Str} {v:Value}:∀ {P:List Str} {vs:List Value} {i:Nat} {m:Str->Option Value},P.Nodup->P[i]?=some x->vs[i]?=some v->kindOf x=some .local ->
  bindL kindOf (P.zip vs) m x=some v
 | [],_,_,_,_,h,_,_=>by simp at h
 | _::_,[],_,_,_,_,h,_=>by simp at h
 | p::P,w::vs,0,m,nd,h1,h2,hk=>by
  simp at h1 h2; subst h1; subst h2
  show bindL kindOf ((p,w)::P.zip vs) m p=_
  unfold bindL
  rw [QQ fun v hv=>(aS.mp nd).1 (dL hv).1,if_pos hk]
  simp
 | p::P,w::vs,i+1,m,nd,h1,h2,hk=>by
  show bindL kindOf ((p,w)::P.zip vs) m x=_
  unfold bindL
  exact QS (i:=i) (aS.mp nd).2 (by simpa using h1) (by simpa using h2) hk
theorem QT {kindOf:Str->Option NameKind} {x:Str} {v:Value}:∀ {P:List Str} {vs:List Value} {i:Nat} {m:Str->Option Value},P.Nodup->P[i]?=some x->vs[i]?=some v->kindOf x≠some .local ->
  bindC kindOf (P.zip vs) m x=some v
 | [],_,_,_,_,h,_,_=>by simp at h
 | _::_,[],_,_,_,_,h,_=>by simp at h
 | p::P,w::vs,0,m,nd,h1,h2,hk=>by
  simp at h1 h2; subst h1; subst h2
  show bindC kindOf ((p,w)::P.zip vs) m p=_
  unfold bindC
  rw [QR fun v hv=>(aS.mp nd).1 (dL hv).1,if_neg hk]
  simp
 | p::P,w::vs,i+1,m,nd,h1,h2,hk=>by
  show bindC kindOf ((p,w)::P.zip vs) m x=_
  unfold bindC
  exact QT (i:=i) (aS.mp nd).2 (by simpa using h1) (by simpa using h2) hk
noncomputable def vf (N:List Str) (vs:List V):St:=vs.map some++au (N.length - vs.length) none
def Zr (CX:CXT) (P:Program) (w:World) (K:Frag) (mg:Str->Option Value) (base:Heap) (N:List Str) (qual:Str) (scope:Scope) (f:Addr) (cd:Value) (A:Around) (outer:List Env) (s:Shared) (H:Hp) (E:XK):Cx where
 prog:=P
 w:=w
 K:=K
 mg:=mg
 base:=base
 A:=A.deeper (envOfC qual scope s.heap.objs.size f cd)
 N:=N
 s₀:=s
 H₀:=H
 env:=envOfC qual scope s.heap.objs.size f cd
 outer:=outer
 stack:=envOfC qual scope s.heap.objs.size f cd::outer
 ex:=[]
 calm:=true
 fn:=fun _=>true
 pn:=[]
 xe:=fun e s'=>wpAny (model P w) (A.deeper (envOfC qual scope s.heap.objs.size f cd)) (leaving (envOfC qual scope s.heap.objs.size f cd) e) (fun _ s''=>CX outer H s E e s'') (fun e' s''=>CX outer H s E e' s'') s'
theorem VM {sc:Scope} {n:Nat} (h:sc.names.lookup x=some .cell):∃ c,(cellsFrom n sc.names []).lookup x=some c:=by
 have q:=PySem.W.cellsFrom_some sc.names n [] (.inl h)
 exact Option.isSome_iff_exists.mp q
theorem UT {CX:CXT} {P:Program} {w:World} {K:Frag} {mg:Str->Option Value} {base:Heap} {N ps:List Str} {qual:Str} {scope:Scope} {f:Addr} {cd:Value} {A:Around} {outer:List Env} {s s1:Shared} {H:Hp} {E:XK} {us:List Value} {vs:List V}
  (S:FnScope N ps scope) (hd:A.handled=none) (e0:Env0 P w K mg base A outer s H) (hl:vs.length=ps.length) (r:Vals vs us)
  (x:InCallC s s.heap.objs.size (bindL (envOfC qual scope s.heap.objs.size f cd).kindOf (ps.zip us) fun _=>none) (cellsFrom (s.heap.objs.size+1) scope.names []) (bindC (envOfC qual scope s.heap.objs.size f cd).kindOf (ps.zip us) fun _=>none) s1) :
  Inv (Zr CX P w K mg base N qual scope f cd A outer s H E) [] (vf N vs) H s1:=by
 have hpl:ps.length<=N.length:=by have:=congrArg List.length S.pre; rw [dA] at this; omega
 obtain ⟨h1,tk,rfl,hk⟩:=x.done
 have noA:∀ b:Addr,b∉(Zr CX P w K mg base N qual scope f cd A outer s H E).ex:=fun b z=>absurd (show b∈([]:List Addr) from z) (by simp)
 refine ⟨⟨e0.mod,S.kind,rfl,rfl,ax _,fun y z c h1 h2=>?_,fun y hy=>?_,fun y c _ h=>?_,fun _=>hd,Around.frames_deeper e0.frames,.inr ⟨rfl,rfl⟩,fun b z=>absurd z (noA b),e0.bs,e0.bsz,fun b _ _=>noA b,fun b z=>absurd z (noA b),e0.funs,e0.frf⟩,
  rfl,e0.bare,Un.kept hk,⟨_,x.toInCall.ns,fun i y v h1 h2 h3=>?_⟩,fun y c h=>⟨_,x.cell y c h⟩,e0.hok.fresh (ax _),fun y c h=>?_,fun p hp=>absurd (show p∈([]:List (Addr×Obj)) from hp) (by simp),e0.hok.kept hk,?_⟩
 ·exact name_of_addr x.apart (cQ h1) (cQ h2)
 ·have hy:scope.names.lookup y=some .cell\/scope.names.lookup y=some .free:=hy
  rcases hy with hy | hy
  ·exact VM hy
  ·exact absurd rfl (S.nofree _ (cQ hy))
 ·exact dt (x.above y c (cQ h))
 ·have hi:i < vs.length:=by
   unfold vf at h2
   by_cases hi:i < vs.length
   ·exact hi
   ·rw [bB (by simpa using hi)] at h2
    rw [bf] at h2
    split at h2 <;> cases h2
  have ha:vs[i]?=some v:=by
   unfold vf at h2
   rw [ci (by simpa using hi),aY] at h2
   cases e:vs[i]? with
   | none=>rw [e] at h2; cases h2
   | some a=>rw [e] at h2; cases h2; rfl
  obtain ⟨u,hu,rv⟩:=r.get ha
  have hp:ps[i]?=some y:=by
   rw [<-S.pre,List.getElem?_take_of_lt (by omega)]; exact h1
  have ndP:ps.Nodup:=by rw [<-S.pre]; exact S.nd.sublist (List.take_sublist _ _)
  refine ⟨u,rv,?_⟩
  rcases S.par y (dl hp) with k | k
  ·exact .inl ⟨k,QS ndP hp hu k⟩
  ·obtain ⟨c,e⟩:=VM (n:=s.heap.objs.size+1) k
   refine .inr ⟨.inl k,c,e,?_⟩
   have q:=x.cell y c e
   rw [QT ndP hp hu (by show scope.names.lookup y≠_; rw [k]; decide)] at q
   exact q
 ·exact e0.hok.fresh (dt (x.above y c (cQ h)))
 ·unfold vf
  show _=N.length
  rw [am,aG,cE]
  omega
theorem ZM {CX:CXT} {P:Program} {w:World} {K:Frag} {mg:Str->Option Value} {base:Heap} {k:Nat} {f:Addr} {name qual:Str} {params:Arguments} {body:List Stmt} {scope:Scope} {dV kV doc pm cdv ct oc:Value} {an od:Option Addr}
  {osl:Array (Option Value)} {N ps:List Str} {sp:Sp} (lk:K.lookup f=some ⟨oc,od,.func (cz name qual params body scope dV kV doc pm an cdv ct),osl⟩) (hcd:codeIn K cdv qual=true) (S:FnScope N ps scope)
  (len:∀ vs H Q E,sp vs H Q E->vs.length=ps.length)
  (hbody:∀ (A:Around) (outer:List Env) (s:Shared) (H:Hp) (vs:List V) (Q:VK) (E:XK),Room k (A.deeper (envOfC qual scope s.heap.objs.size f cdv))->sp vs H Q E ->
   ∃ t,PSs (Zr CX P w K mg base N qual scope f cdv A outer s H E) body t/\t { nx:=fun _ H'=>Q .non H',rt:=Q } (vf N vs) H) :
  FnOk P w K mg base CX (k+1) f (cz name qual params body scope dV kV doc pm an cdv ct) ps sp:=by
 refine ⟨len,fun A outer s H args us vs Q E hr e0 hb r hsp=>?_⟩
 have hl:=len _ _ _ _ hsp
 have KX:K.In s.heap:=e0.mod.kin.keeps fun b o e=>(e0.bs b o e).1
 have lim:s.heap.NoLimit:=e0.mod.nolimit.keeps fun b o e=>(e0.bs b o e).1
 have hkind:∀ y∈ps.zip us,scope.names.lookup y.1=some .local\/(scope.names.lookup y.1=some .cell/\((cellsFrom (s.heap.objs.size+1) scope.names []).lookup y.1).isSome=true):=fun ⟨n,v⟩ hy=>by
  rcases S.par n (dL hy).1 with q | q
  ·exact .inl q
  ·exact .inr ⟨q,PySem.W.cellsFrom_some _ _ _ (.inl q)⟩
 refine codeAny_call_function hr.depth (KX _ _ lk) rfl S.co S.gen rfl (PySem.W.codeRec_of KX hcd) (hb _ _ _ _ ?_)
 refine wpAny_newFunctionEnv_cells S.kind hkind fun env he s1 x=>?_
 subst he
 refine ⟨lim.keeps x.toInCall.keep,codeAny_func ?_⟩
 obtain ⟨t,ht,hq⟩:=hbody A outer s H vs Q E (hr.deeper _) hsp
 have I:Inv (Zr CX P w K mg base N qual scope f cdv A outer s H E) [] (vf N vs) H s1:=UT S hr.hd e0 hl r x
 refine wpAny_mono (ht [] s1 (vf N vs) H _ I hq) (fun fl s' hs=>?_) fun e s' hs=>hs
 have fin:∀ {σ':St} {H':Hp} {v:V} {u:Value},Inv (Zr CX P w K mg base N qual scope f cdv A outer s H E) [] σ' H' s'->RelV v u->Q v H'->CE outer P w H s Q u s':=
  fun {σ' H' v u} J rv q=>⟨v,H',J.os,J.bare,J.base,J.hok,rv,q⟩
 cases fl with
 | ret u=>
  obtain ⟨v,σ',H',J,rv,q⟩:=hs
  exact fin J rv q
 | next=>
  obtain ⟨σ',H',J,q⟩:=hs
  exact fin (v:=V.non) (u:=ck) J rfl q
 | brk=>
  obtain ⟨_,_,_,q⟩:=hs
  exact cC q
 | cont=>
  obtain ⟨_,_,_,q⟩:=hs
  exact cC q
section
variable {t:TA} {id T:String} {r:List V->Hp->VK->Prop}
def tCB (r:List V->Hp->VK->Prop) (t:TA):TE:=fun σ H Q=>t σ H fun vs H1=>r vs H1 Q
theorem wW (hc:um X (.builtin id) r) (hg:Gl X x) (hm:X.mg x=none) (hv:bootBuiltins x=some (.builtin id)) (ha:PA X (e::es) t) (hn:x ≠ "__name__":=by decide) (hdb:(x == ("__debug__":Str))=false:=by decide)
  (he:starEach (e::es) X.env=(false,eval e X.env)::starEach es X.env:=by rfl) (hpl:(backTo pos (starEach es X.env)).any (·.1)=false:=by rfl):PE X (.Call (.Name x p) (e::es) [] pos) (tCB r t):=by
 refine ⟨?_⟩
 intro pins s σ H Q I h
 refine wpAny_Call_Name_kw (QO I hg hm hv ?_ hn hdb)
 exact PyProof.Rows.callWith_builtin1 (thn (ha pos pins s σ H _ I h) fun us s1 ⟨vs,H1,I1,r1,q1⟩=>hc pins s1 σ H1 vs us Q I1 r1 q1) he hpl
theorem uK (hc:um X (.type T) r) (hg:Gl X x) (hm:X.mg x=none) (hv:bootBuiltins x=some (.type T)) (ha:PA X (e::es) t) (hn:x ≠ "__name__":=by decide) (hdb:(x == ("__debug__":Str))=false:=by decide)
  (he:starEach (e::es) X.env=(false,eval e X.env)::starEach es X.env:=by rfl) (hpl:(backTo pos (starEach es X.env)).any (·.1)=false:=by rfl):PE X (.Call (.Name x p) (e::es) [] pos) (tCB r t):=by
 refine ⟨?_⟩
 intro pins s σ H Q I h
 refine wpAny_Call_Name_kw (QO I hg hm hv ?_ hn hdb)
 exact db (thn (ha pos pins s σ H _ I h) fun us s1 ⟨vs,H1,I1,r1,q1⟩=>hc pins s1 σ H1 vs us Q I1 r1 q1) he hpl
end
end L2
namespace HT
open PySem PyProof.Rows
section
open PySem.SeqAt
open PySem.AutoSeq1 (wpAny_loadPart')
open PySem.MeetsSeq PySem.MeetsSeq2 PySem.MeetsSeq3
end
section
variable {prog:Program} {w:World} {A:Around} {E:Value->Shared->Prop} {s:Shared}
theorem cat_tup {t b:Addr} {vs ws:List Value} {Q:Value->Shared->Prop} (ht:IsTup s.heap t vs.toArray) (hb:IsTup s.heap b ws.toArray) (hv:vs≠[])
  (h1:ws=[]->Q (.ref t) s) (h2:ws≠[]->Q (.ref s.heap.objs.size) { s with heap:=s.heap.push { cls:=.type "tuple",data:=.seq (vs++ws).toArray } })
  (hsz:vs.length+ws.length<=sizeLine):wpAny (model prog w) A (binaryOp .Add (.ref t) (.ref b)) Q E s:=by
 obtain ⟨⟨cls,dd,data,sl⟩,ho,hc,n,hd⟩:=id ht
 obtain ⟨⟨cls2,dd2,data2,sl2⟩,ho2,hc2,n2,hd2⟩:=id hb
 simp only at hc hd hc2 hd2
 subst hc hd hc2 hd2
 have e:vs.toArray++ws.toArray=(vs++ws).toArray:=by simp
 by_cases hw:ws=[]
 ·exact concat_meets ⟨_,ho,rfl⟩ ⟨_,ho2,rfl⟩ noFill_tuple_add seq_tuple_add dZ dS (dG _ _)
   (tuple_addW1 t b vs.toArray ws.toArray n n2 dd dd2 sl sl2 (by simpa using hv) (by simp [hw])) ⟨ho,ho2,h1 hw⟩
 ·refine concat_meets ⟨_,ho,rfl⟩ ⟨_,ho2,rfl⟩ noFill_tuple_add seq_tuple_add dZ dS (dG _ _)
   (tuple_addW2 t b vs.toArray ws.toArray n n2 dd dd2 sl sl2 (by simpa using hv) (by simpa using hw) (by rw [ak,ak]; exact hsz)) ⟨ho,ho2,?_⟩
  rw [e]
  exact h2 hw
theorem slicePart_ {v:Value} {o:Option Int} {Q:Option Int->Shared->Prop} (p:IsPart v o) (h:Q o s):wpAny (model prog w) A (Builtin.Slice.slicePartIndex v) Q E s:=by
 cases p with
 | none=>exact slicePart_none h
 | int i t=>exact slicePart_int h
end
end HT
namespace L2
open PySem PySem.Spec PyProof.Rows
abbrev TO:=St->Hp->(Option Int->Hp->Prop)->Prop
def PO (X:Cx) (e:Option Expr) (t:TO):Prop:=
 ∀ (pins:List (Addr×Obj)) (s:Shared) (σ:St) (H:Hp) (Q:Option Int->Hp->Prop),Inv X pins σ H s->t σ H Q ->
  wpAny (model X.prog X.w) X.A (evalPart e X.env) (fun u s'=>∃ o H',Inv X pins σ H' s'/\IsPart u o/\Q o H') X.xe s
def qbq:TO:=fun _ H Q=>Q none H
def qe2 (t:TE):TO:=fun σ H Q=>t σ H fun x H1=>∃ i,x=.int i/\Q (some i) H1
variable {X:Cx} {e:Expr} {pos:Pos} {xs:List V} {us:List Value}
section
variable {te:TE} {lo hi:Option Expr} {tl th:TO} {p2:Pos}
theorem qbr:PO X none qbq:=by
 intro pins s σ H Q I h
 rw [evalPart_none]
 exact wpAny_pure ⟨none,H,I,.none,h⟩
theorem qbs (h:PE X e te):PO X (some e) (qe2 te):=by
 intro pins s σ H Q I hw
 rw [evalPart_some]
 refine thn (h pins s σ H _ I hw) fun u s1 ⟨x,H1,I1,r1,q1⟩=>?_
 obtain ⟨i,rfl,q⟩:=q1
 obtain ⟨t,rfl⟩:=r1
 exact ⟨some i,H1,I1,.int i t,q⟩
def qe3 (K:Frag):R2:=fun x y H Q=>∃ a b xs ys,x=.ref a/\y=.ref b/\SqT K H a xs/\SqT K H b ys/\xs≠[]/\xs.length+ys.length<=sizeLine /\
 (ys=[]->Q (.ref a) H)/\(ys≠[]->∀ p,H p=none->Q (.ref p) (upd H p (.tup (xs++ys))))
theorem Vals.nil_iff (r:Vals xs us):us=[]↔xs=[]:=by
 cases r with
 | nil=>simp
 | cons _ _=>simp
theorem qbt:OpR X (binaryOp .Add) (qe3 X.K):=by
 intro pins s σ H x y v u Q I rx ry h
 obtain ⟨a,b,xs,ys,rfl,rfl,ha,hb,hx,hz,q1,q2⟩:=h
 cases rx
 cases ry
 obtain ⟨its,r1,p1,_⟩:=I.tuple ha
 obtain ⟨its2,r2,p2,_⟩:=I.tuple hb
 refine HT.cat_tup p1 p2 (fun z=>hx (r1.nil_iff.mp z)) (fun z=>⟨.ref a,H,I,rfl,q1 (r2.nil_iff.mp z)⟩) (fun z=>?_) (by rw [<-r1.length,<-r2.length]; exact hz)
 refine ⟨.ref s.heap.objs.size,_,I.laid (t':=s.toks) (o:=.tup (xs++ys)) (fun b ob q=>aa _ q) (ax _) ?_,rfl,q2 (fun w=>z (r2.nil_iff.mpr w)) _ (I.hok.fresh (ax _))⟩
 exact ⟨⟨by rw [am]; exact hz,_,ag _ rfl,rfl⟩,_,r1.append r2,fJ _ _⟩
end
noncomputable def ixN (n:Nat) (i:Int):Option Nat:=if 0<=i then (if i < n then some i.toNat else none) else if -(n:Int)<=i then some (i+n).toNat else none
variable {α:Type}
noncomputable def atI (xs:List α) (i:Int):Option α:=(ixN xs.length i).bind fun j=>xs[j]?
variable {n j:Nat} {i:Int}
theorem UU (h:ixN n i=some j):seqIndex? i n=some j/\j < n/\-(n:Int)<=i/\i < n:=by
 unfold ixN at h
 by_cases h0:0<=i
 ·rw [if_pos h0] at h
  by_cases h1:i < n
  ·rw [if_pos h1] at h
   have e:i.toNat=j:=br.inj h
   exact ⟨by rw [seqIndex_of h0 h1,e],by omega,by omega,h1⟩
  ·rw [if_neg h1] at h; cases h
 ·rw [if_neg h0] at h
  by_cases h1:-(n:Int)<=i
  ·rw [if_pos h1] at h
   have e:(i+n).toNat=j:=br.inj h
   exact ⟨by rw [seqIndex_neg (by omega) h1,e],by omega,h1,by omega⟩
  ·rw [if_neg h1] at h; cases h
theorem Ko {xs:List α} {v:α} (h:atI xs i=some v):∃ j,seqIndex? i xs.length=some j/\xs[j]?=some v/\j < xs.length/\-(xs.length:Int)<=i/\i < xs.length:=by
 unfold atI at h
 cases e:ixN xs.length i with
 | none=>rw [e] at h; cases h
 | some j=>
  rw [e] at h
  obtain ⟨h1,h2,h3,h4⟩:=UU e
  exact ⟨j,h1,h,h2,h3,h4⟩
theorem uA {xs:List α} {v:α} (h:xs[j]?=some v):atI xs (j:Int)=some v:=by
 have hj:j < xs.length:=(aE.mp h).1
 have e:ixN xs.length (j:Int)=some j:=by
  unfold ixN
  rw [if_pos (by omega),if_pos (by omega)]; simp
 unfold atI; rw [e]; exact h
theorem ZN (xs:List α) (v:α):atI (xs++[v]) (-1)=some v:=by
 have hl:(xs++[v]).length=xs.length+1:=by simp
 have e:ixN (xs++[v]).length (-1)=some xs.length:=by
  unfold ixN
  rw [hl,if_neg (by decide),if_pos (by omega)]
  congr 1
  omega
 unfold atI
 rw [e]
 show (xs++[v])[xs.length]?=some v
 simp
def Kq (b:Expr):Prop:=∀ o i,subscripted b false o i=operate [o,i] (getItem o i)
def IxR (X:Cx) (r:R2):Prop:=
 ∀ (value slice:Expr) (pins:List (Addr×Obj)) (s:Shared) (σ:St) (H:Hp) (x y:V) (v u:Value) (Q:VK),Inv X pins σ H s->RelV x v->RelV y u->r x y H Q ->
  subscripted slice false v u=operate [v,u] (getItem v u)->wpAny (model X.prog X.w) X.A (subscriptTail value slice v u) (EP X pins σ Q) X.xe s
def MtR (X:Cx) (id:String) (r:V->List V->Hp->VK->Prop):Prop:=
 ∀ (pins:List (Addr×Obj)) (s:Shared) (σ:St) (H:Hp) (x:V) (xs:List V) (v:Value) (us:List Value) (Q:VK),Inv X pins σ H s->RelV x v->Vals xs us->r x xs H Q ->
  wpAny (model X.prog X.w) X.A (call (.builtin id) (v::us)) (EP X pins σ Q) X.xe s
variable {pins:List (Addr×Obj)} {σ:St} {H:Hp} {s:Shared} {p:Addr} {T:String}
section
variable {a b:Expr} {ta tb:TE}
theorem IxR.or {r r':R2} (h:IxR X r) (h':IxR X r'):IxR X (fun x y H Q=>r x y H Q\/r' x y H Q):=by
 intro value slice pins s σ H x y v u Q I rx ry q hs
 rcases q with q | q
 ·exact h value slice pins s σ H x y v u Q I rx ry q hs
 ·exact h' value slice pins s σ H x y v u Q I rx ry q hs
theorem qdd {r:R2} (hr:IxR X r) (ha:PE X a ta) (hb:PE X b tb) (hs:Kq b):PE X (.Subscript a b pos) (tOp r ta tb):=by
 refine ⟨?_⟩
 intro pins s σ H Q I h
 exact Subscript_ (qeR ha hb I h fun v u s2 x y H2 I2 rx ry q=>hr a b pins s2 σ H2 x y v u Q I2 rx ry q (hs _ _))
def qfE (K:Frag):R2:=fun x y H Q=>∃ p xs i v,x=.ref p/\y=.int i/\SqL K H p xs/\atI xs i=some v/\Q v H
def qfF (K:Frag):R2:=fun x y H Q=>∃ p xs i v,x=.ref p/\y=.int i/\SqT K H p xs/\atI xs i=some v/\Q v H
def qfG:R2:=fun x y H Q=>∃ z i c,x=.str z/\y=.int i/\z.length<=sizeLine/\atI z.cps.toList i=some c/\Q (.str ⟨#[c]⟩) H
theorem ix_list:IxR X (qfE X.K):=by
 intro value slice pins s σ H x y v u Q I rx ry h hs
 obtain ⟨p,xs,i,z,rfl,rfl,hq,he,q⟩:=h
 cases rx
 obtain ⟨t,rfl⟩:=ry
 obtain ⟨its,r,pl,hz⟩:=I.list hq
 obtain ⟨j,h1,h2,h3,h4,h5⟩:=Ko he
 obtain ⟨w,ew,rw'⟩:=r.get h2
 have hl:=r.length
 have hn:=gb
 have fin:EP X pins σ Q w s:=⟨z,H,I,rw',q⟩
 by_cases h0:0<=i
 ·have hj:i.toNat=j:=by
   rw [seqIndex_of h0 h5] at h1
   exact br.inj h1
  exact item_listR pl.isList h0 (by omega) (by rw [hj]; simpa using ew) fin hs
 ·have hj:(i+(its.toArray.size:Int)).toNat=j:=by
   rw [seqIndex_neg (by omega) h4] at h1
   rw [ak,<-hl]
   exact br.inj h1
  exact subscriptTail_builtinR (x:=w) pl.isList.typeIs slot_list_getitem.lookup
   (wpAny_getItem_list_neg (Q:=fun r s'=>r=w/\EP X pins σ Q r s') pl.isList (by omega) (by rw [ak] <;> omega) (by omega) (by rw [hj]; simpa using ew) ⟨rfl,fin⟩) hs
theorem ix_tup:IxR X (qfF X.K):=by
 intro value slice pins s σ H x y v u Q I rx ry h hs
 obtain ⟨p,xs,i,z,rfl,rfl,hq,he,q⟩:=h
 cases rx
 obtain ⟨t,rfl⟩:=ry
 obtain ⟨its,r,pl,hz⟩:=I.tuple hq
 obtain ⟨j,h1,h2,h3,h4,h5⟩:=Ko he
 obtain ⟨w,ew,rw'⟩:=r.get h2
 have hl:=r.length
 have hn:=gb
 have fin:EP X pins σ Q w s:=⟨z,H,I,rw',q⟩
 exact subscriptTail_builtinR (x:=w) pl.typeIs slot_tuple_getitem.lookup
  (getItem_tuple (j:=j) (Q:=fun r s'=>r=w/\EP X pins σ Q r s') pl (by omega) (by omega) (by rw [ak,<-hl]; exact h1) (by simpa using ew) ⟨rfl,fin⟩) hs
theorem qde:IxR X qfG:=by
 intro value slice pins s σ H x y v u Q I rx ry h hs
 obtain ⟨z,i,c,rfl,rfl,hz,he,q⟩:=h
 obtain ⟨t,rfl⟩:=rx
 obtain ⟨t',rfl⟩:=ry
 obtain ⟨j,h1,h2,h3,h4,h5⟩:=Ko he
 have hl:z.cps.toList.length=z.length:=by simp [fE]
 rw [hl] at h1 h4 h5
 have hn:=gb
 exact tail_any (typeIs_str s z t) slot_str_getitem.lookup (getItem_str (c:=c) (by
  have e1:decide (i < -(2 ^ 63:Int))=false:=decide_eq_false (by omega)
  have e2:decide (i ≥ 2 ^ 63)=false:=decide_eq_false (by omega)
  rw [e1,e2,Bool.or_false]) (by rw [h1]; simpa using h2) ⟨.str ⟨#[c]⟩,H,I.tok _,⟨_,rfl⟩,q⟩) hs
def rIx (K:Frag):R2:=fun x y H Q=>qfE K x y H Q\/qfF K x y H Q\/qfG x y H Q
theorem qdf:IxR X (rIx X.K):=ix_list.or (ix_tup.or qde)
theorem WZ (its:List Value) (n j:Nat) (u:Value):dm (·.setIfInBounds j u) { cls:=.type "list",data:=.seq its.toArray n }={ cls:=.type "list",data:=.seq (its.set j u).toArray n }:=by
 simp [dm]
theorem Inv.lst (I:Inv X pins σ H s) (h:H p=some (.lst xs)) :
  ∃ (its:List Value) (n:Nat),Vals xs its/\s.heap.get? p=some { cls:=.type "list",data:=.seq its.toArray n }/\xs.length<=sizeLine:=by
 obtain ⟨z,its,n,r,e⟩:=I.hok p _ h
 exact ⟨its,n,r,e,z⟩
theorem Inv.lstUpd {ys:List V} {its its':List Value} {n n':Nat} {f:Obj->Obj} (I:Inv X pins σ H s) (h:H p=some (.lst xs))
  (ho:s.heap.get? p=some { cls:=.type "list",data:=.seq its.toArray n }) (hf:f { cls:=.type "list",data:=.seq its.toArray n }={ cls:=.type "list",data:=.seq its'.toArray n' }) (r:Vals ys its') (hz:ys.length<=sizeLine) (t:Nat) :
  Inv X pins σ (upd H p (.lst ys)) { s with heap:=s.heap.update p f,toks:=t }:=by
 have e:(s.heap.update p f).get? p=some { cls:=.type "list",data:=.seq its'.toArray n' }:=by
  rw [bw f ho (by rw [hf] <;> rfl),hf]
 refine I.write (x:=p) (e:=p) (by rw [h]; trivial) (.inl rfl) (fun b u hb q=>(cX _ _ (aX hb)).trans q) ⟨_,e⟩ ?_
 exact ⟨hz,its',n',r,e⟩
def qe4:V->V->V->Hp->(Hp->Prop)->Prop:=fun o i v H Q=>∃ p xs k j,o=.ref p/\i=.int k/\H p=some (.lst xs)/\ixN xs.length k=some j/\Q (upd H p (.lst (xs.set j v)))
theorem ZO:qfB X qe4:=by
 intro pins s σ H o i v ov iv u Q I ro ri rv h
 obtain ⟨p,xs,k,j,rfl,rfl,hp,hj,q⟩:=h
 cases ro
 obtain ⟨t,rfl⟩:=ri
 obtain ⟨its,n,r,ho,hz⟩:=I.lst hp
 obtain ⟨h1,h2,h3,h4⟩:=UU hj
 have hl:=r.length
 have hn:=gb
 have I':Inv X pins σ (upd H p (.lst (xs.set j v))) { s with heap:=s.heap.update p (dm (·.setIfInBounds j u)) }:=
  I.lstUpd hp ho (WZ its n j u) (r.set rv j) (by rw [bn]; exact hz) s.toks
 by_cases h0:0<=k
 ·have hk:k.toNat=j:=by
   rw [seqIndex_of h0 h4] at h1
   exact br.inj h1
  exact PySem.W.ki_setAt ho h0 (by omega) (by rw [ak,<-hl]; exact h4) (by rw [hk]; exact ⟨_,I',q⟩)
 ·have hk:(k+(its.toArray.size:Int)).toNat=j:=by
   rw [seqIndex_neg (by omega) h3] at h1
   rw [ak,<-hl]
   exact br.inj h1
  exact PySem.W.ki_setBack ho (by omega) (by rw [ak,<-hl]; exact h3) (by omega) (by rw [hk]; exact ⟨_,I',q⟩)
theorem yG:um X (.type "list") (fun xs H Q=>∃ p ys,xs=[.ref p]/\(SqL X.K H p ys\/SqT X.K H p ys)/\∀ l,H l=none->Q (.ref l) (upd H l (.lst ys))):=by
 intro pins s σ H xs us Q I r h
 obtain ⟨p,ys,rfl,hq,q⟩:=h
 obtain ⟨u,rfl,rx⟩:=xc r
 cases rx
 have fin:∀ (its:List Value),Vals ys its->ys.length<=sizeLine->∀ (h':Heap) (c':Nat),(∀ b o',s.heap.get? b=some o'->h'.get? b=some o') ->
   h'.get? s.heap.objs.size=some { cls:=.type "list",dict:=none,data:=.seq its.toArray c',slots:=#[] }->EP X pins σ Q (.ref s.heap.objs.size) { s with heap:=h' }:=fun its r' hz h' c' kp e=>
  ⟨.ref s.heap.objs.size,_,I.laid (t':=s.toks) kp (ax _) (show ObjOk X.prog X.w _ h' _ (.lst ys) from ⟨hz,its,c',r',e⟩),rfl,q _ (I.hok.fresh (ax _))⟩
 rcases hq with hq | hq
 ·obtain ⟨its,r',pl,hz⟩:=I.list hq
  have hlen:=r'.length
  obtain ⟨o,ho,hc,n,hd⟩:=pl.isList
  exact call_list_seq p (.inl rfl) ho hc hd (fun h' c' kp e=>fin its r' hz h' c' kp e) (by simp only [ak] <;> omega)
 ·obtain ⟨its,r',pl,hz⟩:=I.tuple hq
  have hlen:=r'.length
  obtain ⟨o,ho,hc,n,hd⟩:=pl
  exact call_list_seq p (.inr rfl) ho hc hd (fun h' c' kp e=>fin its r' hz h' c' kp e) (by simp only [ak] <;> omega)
theorem uL:um X (.type "tuple") (fun xs H Q=>∃ p ys,xs=[.ref p]/\((SqL X.K H p ys/\∀ l,H l=none->Q (.ref l) (upd H l (.tup ys)))\/(SqT X.K H p ys/\Q (.ref p) H))):=by
 intro pins s σ H xs us Q I r h
 obtain ⟨p,ys,rfl,h⟩:=h
 obtain ⟨u,rfl,rx⟩:=xc r
 cases rx
 rcases h with ⟨hq,q⟩ | ⟨hq,q⟩
 ·obtain ⟨its,r',pl,hz⟩:=I.list hq
  have hlen:=r'.length
  refine call_tuple_list pl.isList (fun h' kp=>?_) (by simp only [ak] <;> omega)
  have I1:Inv X pins σ H { s with heap:=h' }:=I.kept (t':=s.toks) kp
  have I2:Inv X pins σ (upd H h'.objs.size (.tup ys)) { s with heap:=h'.push { cls:=.type "tuple",data:=.seq its.toArray } }:=
   I1.laid (t':=s.toks) (fun b o e=>aa _ e) (ax _) (show ObjOk X.prog X.w _ _ _ (.tup ys) from ⟨⟨hz,_,ag _ rfl,rfl⟩,its,r',fJ _ _⟩)
  exact ⟨.ref h'.objs.size,_,I2,rfl,q _ (I1.hok.fresh (ax _))⟩
 ·obtain ⟨its,r',pl,hz⟩:=I.tuple hq
  exact call_tuple_same pl ⟨.ref p,H,I,rfl,q⟩
def tyV (K:Frag) (T:String) (x:V) (H:Hp):Prop:=match x with
 | .str _=>T = "str"
 | .int _=>T = "int"
 | .ref p=>(T = "list"/\∃ xs,SqL K H p xs)\/(T = "tuple"/\∃ o,K.lookup p=some o/\o.cls=.type "tuple"/\o.dict=none) \/
   (T = "dict"/\((∃ kvs,H p=some (.dK kvs))\/∃ kvs,H p=some (.dT kvs)))\/(T = "set"/\∃ S n,H p=some (.set S n))
 | _=>False
theorem qay {x:V} {v:Value} (I:Inv X pins σ H s) (r:RelV x v) (ty:tyV X.K T x H) :
  s.TypeIs v T/\∀ a,v=.ref a->∃ ob,s.heap.get? a=some ob/\ob.dict=none:=by
 cases x with
 | str z=>
  obtain ⟨t,rfl⟩:=r
  cases (show T = "str" from ty)
  exact ⟨typeIs_str s z t,fun _ e=>nomatch e⟩
 | int i=>
  obtain ⟨t,rfl⟩:=r
  cases (show T = "int" from ty)
  exact ⟨typeIs_int s i t,fun _ e=>nomatch e⟩
 | ref p=>
  cases r
  rcases ty with ⟨rfl,xs,hq⟩ | ⟨rfl,o,hk,hc,hd⟩ | ⟨rfl,hk⟩ | ⟨rfl,S,n,hk⟩
  ·obtain ⟨its,_,pl,_⟩:=I.list hq
   refine ⟨pl.isList.typeIs,fun a e=>?_⟩
   cases e
   obtain ⟨o,n,e,c,hd,_⟩:=pl
   exact ⟨o,e,hd⟩
  ·refine ⟨⟨o,I.kIn p o hk,hc⟩,fun a e=>?_⟩
   cases e
   exact ⟨o,I.kIn _ o hk,hd⟩
  ·have z:∃ o,s.heap.get? p=some o/\o.ExactDict:=by
    rcases hk with ⟨kvs,hk⟩ | ⟨kvs,hk⟩
    ·obtain ⟨_,_,_,_,o,_,_,e,ex,_⟩:=I.hok p _ hk
     exact ⟨o,e,ex⟩
    ·obtain ⟨_,_,_,_,o,_,_,e,ex,_⟩:=I.hok p _ hk
     exact ⟨o,e,ex⟩
   obtain ⟨o,e,ex⟩:=z
   refine ⟨⟨o,e,ex.1⟩,fun a e2=>?_⟩
   cases e2
   exact ⟨o,e,ex.2.1⟩
  ·obtain ⟨o,_,_,_,e,ex,_⟩:=I.hok p _ hk
   refine ⟨⟨o,e,ex.1⟩,fun a e2=>?_⟩
   cases e2
   exact ⟨o,e,ex.2.1⟩
 | _=>exact cC ty
def qgg (K:Frag) (T:String) (r:V->List V->Hp->VK->Prop) (to:TE):TE:=fun σ H Q=>to σ H fun x H1=>tyV K T x H1/\r x [] H1 Q
def tBM (K:Frag) (T:String) (r:V->List V->Hp->VK->Prop) (to:TE) (t:TA):TE:=fun σ H Q=>to σ H fun x H1=>tyV K T x H1/\t σ H1 fun xs H2=>r x xs H2 Q
variable {o:Expr} {es:List Expr} {to:TE} {t:TA} {name:Str} {apos cpos:Pos} {id:String} {r:V->List V->Hp->VK->Prop}
theorem qaz (pa:PlainAttrs T) (slot:Slot T name id) (hty:typeOf (.builtin id)=pure (.type "method_descriptor")) (hm:MtR X id r) (ho:PE X o to)
  (hbase:attributeBase o name X.env (eval o X.env)=eval o X.env:=by rfl) (hline:(apos.endLine == cpos.line)=true:=by rfl):PE X (.Call (.Attribute o name apos) [] [] cpos) (qgg X.K T r to):=by
 refine ⟨?_⟩
 intro pins s σ H Q I h
 refine wpAny_Call_method0_late hbase hline (thn (ho pins s σ H _ I h) fun v s1 ⟨x,H1,I1,r1,ty,q1⟩=>?_)
 obtain ⟨h1,h2⟩:=qay I1 r1 ty
 exact ⟨T,id,pa,slot,hty,h1,h2,Calls.callWith_builtin rfl (PySem.evalArgs_none (hm pins s1 σ H1 x [] v [] Q I1 r1 .nil q1))⟩
theorem UV (pa:PlainAttrs T) (slot:Slot T name id) (hty:typeOf (.builtin id)=pure (.type "method_descriptor")) (hm:MtR X id r) (ho:PE X o to) (ha:PA X (e::es) t)
  (hbase:attributeBase o name X.env (eval o X.env)=eval o X.env:=by rfl)
  (hfew:((backTo cpos (starEach (e::es) X.env)).all (fun x=>!x.1)&&(backToKw cpos (keywordEach [] X.env)).all (fun x=>x.1.isSome)
   && decide ((e::es).length+([]:List Keyword).length+(if ([]:List Keyword).isEmpty then 0 else 1) < 30))=true:=by rfl)
  (hline:(apos.endLine == cpos.line)=true:=by rfl) (hs:starEach (e::es) X.env=(false,eval e X.env)::starEach es X.env:=by rfl) (hplain:(backTo cpos (starEach es X.env)).any (·.1)=false:=by rfl) :
  PE X (.Call (.Attribute o name apos) (e::es) [] cpos) (tBM X.K T r to t):=by
 refine ⟨?_⟩
 intro pins s σ H Q I h
 refine wpAny_Call_method_late hbase hfew hline rfl (thn (ho pins s σ H _ I h) fun v s1 ⟨x,H1,I1,r1,ty,q1⟩=>?_)
 obtain ⟨h1,h2⟩:=qay I1 r1 ty
 refine ⟨T,id,pa,slot,hty,h1,h2,?_⟩
 have hA:=ha cpos pins s1 σ H1 _ I1 q1
 rw [hs] at hA ⊢
 refine Calls.callWith_builtin (by show (false||(backTo cpos (starEach es X.env)).any (·.1))=false; rw [hplain] <;> rfl) (Calls.evalArgs_plain ?_)
 exact thn hA fun us s2 ⟨vs,H2,I2,r2,q2⟩=>hm pins s2 σ H2 x vs v us Q I2 r1 r2 q2
end
def MtM (X:Cx) (id:String) (r:V->List V->Hp->VK->Prop):Prop:=
 ∀ (pins:List (Addr×Obj)) (s:Shared) (σ:St) (H:Hp) (x:V) (xs:List V) (v:Value) (us:List Value) (Q:VK),Inv X pins σ H s->RelV x v->Vals xs us->r x xs H Q ->
  wpAny (model X.prog X.w) X.A (call (.builtin id) (v::us)) (EP X pins σ Q) X.xe s
theorem Vals.one:∀ {x:V} {us:List Value},Vals [x] us->∃ u,us=[u]/\RelV x u
 | _,_,.cons r .nil=>⟨_,rfl,r⟩
theorem Vals.two:∀ {x y:V} {us:List Value},Vals [x,y] us->∃ u v,us=[u,v]/\RelV x u/\RelV y v
 | _,_,_,.cons r (.cons q .nil)=>⟨_,_,rfl,r,q⟩
theorem Vals.zero:∀ {us:List Value},Vals [] us->us=[]
 | _,.nil=>rfl
theorem Vals.dropLast (h:Vals xs us):Vals xs.dropLast us.dropLast:=by
 induction h with
 | nil=>exact .nil
 | cons r t ih=>
  cases t with
  | nil=>exact .nil
  | cons q t'=>exact .cons r ih
theorem Vals.eraseIdx:∀ {xs:List V} {us:List Value} (i:Nat),Vals xs us->Vals (xs.eraseIdx i) (us.eraseIdx i)
 | _,_,_,.nil=>.nil
 | _,_,0,.cons _ t=>t
 | _,_,i+1,.cons r t=>.cons r (Vals.eraseIdx i t)
theorem Vals.reverse (h:Vals xs us):Vals xs.reverse us.reverse:=by
 induction h with
 | nil=>exact .nil
 | cons r t ih=>rw [d7,d7]; exact Vals.append ih (.cons r .nil)
theorem Vals.rep (h:Vals xs us):∀ k:Nat,Vals (au k xs).flatten (au k us).flatten
 | 0=>.nil
 | k+1=>by
  rw [bM,bM,cb,cb]
  exact Vals.append h (Vals.rep h k)
theorem Ua (l:List α):l.eraseIdx (l.length - 1)=l.dropLast:=by
 induction l with
 | nil=>rfl
 | cons a r ih=>
  cases r with
  | nil=>rfl
  | cons b r=>
   have e:(a::b::r).length - 1=((b::r).length - 1)+1:=by
    have h1:(a::b::r).length=r.length+2:=rfl
    have h2:(b::r).length=r.length+1:=rfl
    omega
   rw [e,List.eraseIdx_cons_succ,ih]
   all_goals rfl
section
variable {l b:Addr} {ys zs:List V}
theorem Inv.lset {its its':List Value} {n:Nat} {f:Array Value->Array Value} {t':Nat} (I:Inv X pins σ H s) (hH:H l=some (.lst xs))
  (e:s.heap.get? l=some { cls:=.type "list",data:=.seq its.toArray n }) (hf:f its.toArray=its'.toArray) (hv:Vals ys its') (hz:ys.length<=sizeLine) :
  Inv X pins σ (upd H l (.lst ys)) { s with heap:=s.heap.update l (dm f),toks:=t' }:=by
 have q:=PySem.IsL.update e f
 rw [hf] at q
 refine I.write (x:=l) (e:=l) (by rw [hH]; exact trivial) (.inl rfl) (fun b' u hb hu=>(cX s.heap (dm f) (aX hb)).trans hu) ⟨_,q⟩ ?_
 exact ⟨hz,its',_,hv,q⟩
theorem Inv.lnew {its:List Value} {t':Nat} (I:Inv X pins σ H s) (hv:Vals ys its) (hz:ys.length<=sizeLine) :
  Inv X pins σ (upd H s.heap.objs.size (.lst ys)) { s with heap:=s.heap.push { cls:=.type "list",data:=.seq its.toArray },toks:=t' }:=
 I.laid (fun _ _ q=>aa _ q) (ax _) ⟨hz,its,0,hv,ag _ rfl⟩
theorem Inv.fresh (I:Inv X pins σ H s):H s.heap.objs.size=none:=I.hok.fresh (ax _)
theorem Inv.lstM (I:Inv X pins σ H s) (hH:H l=some (.lst xs)):xs.length<=sizeLine/\∃ (its:List Value) (n:Nat),Vals xs its/\xs.length=its.length/\s.heap.get? l=some { cls:=.type "list",data:=.seq its.toArray n }:=by
 obtain ⟨z,its,n,r,e⟩:=I.hok l _ hH
 exact ⟨z,its,n,r,r.length,e⟩
theorem ZP (h:n<=sizeLine):cL n=false:=by
 unfold cL
 exact decide_eq_false (by omega)
end
section
def Kr:V->List V->Hp->VK->Prop:=fun x vs H Q=>∃ l xs y,x=.ref l/\vs=[y]/\H l=some (.lst xs)/\xs.length < sizeLine/\Q .non (upd H l (.lst (xs++[y])))
theorem xF:MtM X "list.append" Kr:=by
 intro pins s σ H x vs v us Q I rx rv h
 obtain ⟨l,xs,y,rfl,rfl,hH,hz,q⟩:=h
 cases rx
 obtain ⟨u,rfl,ru⟩:=rv.one
 obtain ⟨z,its,n,r,hl,e⟩:=I.lstM hH
 refine call_meets F.slot_list_append ⟨_,e,rfl⟩ F.entry_list_append (F.args_list_append_2 _ _) (PySem.list_append l its.toArray n u (by rw [ak]; omega)) ⟨e,?_⟩
 refine ⟨.non,_,I.lset (its':=its++[u]) hH e (by simp) (r.append (.cons ru .nil)) ?_,rfl,q⟩
 rw [am,c8]
 omega
def qbu:V->List V->Hp->VK->Prop:=fun x vs H Q=>∃ l b xs zs,x=.ref l/\vs=[.ref b]/\H l=some (.lst xs)/\H b=some (.lst zs)/\xs.length+zs.length<=sizeLine/\Q .non (upd H l (.lst (xs++zs)))
theorem UW:MtM X "list.extend" qbu:=by
 intro pins s σ H x vs v us Q I rx rv h
 obtain ⟨l,b,xs,zs,rfl,rfl,hH,hB,hz,q⟩:=h
 cases rx
 obtain ⟨u,rfl,ru⟩:=rv.one
 cases ru
 obtain ⟨z,its,n,r,hl,e⟩:=I.lstM hH
 obtain ⟨z2,its2,n2,r2,hl2,e2⟩:=I.lstM hB
 have hsz:its.toArray.size+its2.toArray.size<=sizeLine:=by rw [ak,ak]; omega
 have hlong:¬(!its.toArray.isEmpty&&cL (its.toArray.size+its2.toArray.size))=true:=by
  rw [ZP hsz,Bool.and_false]
  exact bX
 refine call_meets F.slot_list_extend ⟨_,e,rfl⟩ F.entry_list_extend (F.args_list_extend_2 _ _)
  (AutoSeq1.list_extend_list_list_0 l its.toArray n b its2.toArray n2 hlong (by rw [ak]; omega) (by omega)) ⟨e,e2,?_⟩
 refine ⟨.non,_,I.lset (its':=its++its2) hH e (by simp) (r.append r2) ?_,rfl,q⟩
 rw [am]
 omega
def qgh:V->List V->Hp->VK->Prop:=fun x vs H Q=>∃ l xs y,x=.ref l/\vs=[]/\H l=some (.lst xs)/\xs[xs.length - 1]?=some y/\Q y (upd H l (.lst xs.dropLast))
theorem qaA:MtM X "list.pop" qgh:=by
 intro pins s σ H x vs v us Q I rx rv h
 obtain ⟨l,xs,y,rfl,rfl,hH,hy,q⟩:=h
 cases rx
 have hus:=rv.zero
 subst hus
 obtain ⟨z,its,n,r,hl,e⟩:=I.lstM hH
 obtain ⟨u,hu,ru⟩:=r.get hy
 have hy':its.toArray[its.toArray.size - 1]?=some u:=by
  show its.toArray[its.length - 1]?=some u
  rw [<-bx,<-hl]
  exact hu
 refine call_meets F.slot_list_pop ⟨_,e,rfl⟩ F.entry_list_pop (F.args_list_pop_1 _) (MeetsSeq.list_pop_last l its.toArray n u hy' (by rw [ak]; omega)) ⟨e,?_⟩
 refine ⟨y,_,I.lset (its':=its.dropLast) hH e ?_ r.dropLast ?_,ru,q⟩
 ·show its.toArray.eraseIdxIfInBounds (its.toArray.size - 1)=its.dropLast.toArray
  rw [ak,List.eraseIdxIfInBounds_toArray,Ua]
 ·rw [List.length_dropLast]
  omega
end
end L2
namespace Att
open PySem PySem.W PySem.Calls PyProof.Rows
theorem xG {P:Params} {h:Heap}:∀ (ns:List Int) (vs:List Value),WellAll P h vs (ns.map WData.int)->IntsAre vs ns:=by
 intro ns
 induction ns with
 | nil=>
  intro vs w
  rw [aT] at w
  cases w
  exact .nil
 | cons n ns ih=>
  intro vs w
  rw [aA] at w
  cases w with
  | cons a b=>
   cases a
   exact .cons _ _ (ih _ b)
theorem UX {l:OpenLaw} {n:Nat} (hn:l.most=some n) {P:Params} {h:Heap} {args:List WData} {vals:List Value}
  (hpre:l.row.toRowW.claim.pre args=true) (hwl:WellAll P h vals args) :
  ∃ a vs ns,vals=[bQ a]/\args=[WData.list (ns.map WData.int)]/\h.get? a=some { cls:=.type "list",data:=.seq vs.toArray }/\IntsAre vs ns/\ns.length<=n:=by
 have hsh:WShape.hasAll [] args [.list .int]=true:=(pre_splitW hpre).1
 have hc:l.pre.holds [] { args:=args }=true:=(pre_splitW hpre).2
 obtain ⟨d,r,rfl,h1,h2⟩:=hasAllW_cons hsh
 obtain rfl:=hasAllW_nil h2
 obtain ⟨xs,rfl,h3⟩:=hasW_list h1
 obtain ⟨ns,rfl⟩:=items_int h3
 have hlen:ns.length<=n:=by
  unfold OpenLaw.pre at hc
  have h4:(WTm.not (.lt (.lit (.int (n:Int))) (.len (.arg 0)))).holds [] { args:=[.list (ns.map .int)] }=true:=by
   have h4:=(holds_andW hc).1
   rw [hn] at h4
   exact h4
  have h5:=condW_of h4 (w_not (w_lt w_lit (w_len_list (w_arg rfl))))
  rw [aG] at h5
  refine Nat.le_of_not_lt fun q=>?_
  have q':(n:Int) < ((ns.length:Nat):Int):=by omega
  first
   | (rw [decide_eq_true q'] at h5; exact absurd h5 (by decide))
   | (simp at h5; omega)
 cases hwl with
 | cons w1 w2=>
  cases w2
  cases w1 with
  | list ho hall=>exact ⟨_,_,ns,rfl,rfl,ho,xG ns _ hall,hlen⟩
theorem UY (l:OpenLaw) (args:List WData):l.row.toRowW.claim.post args (.bool true) args=true:=
 postW_of (r:=l.row.toRowW) (X:=(true == true))
  (show WShape.has [] (.bool true) .bool=true by first | rfl | decide | simp [WShape.has,WShape.arms,WShape.armsAll])
  (show (WTm.eq .res (.lit (.bool true))).value [] { args:=args,res:=some (.bool true),after:=args }=some (.bool (true == true)) from w_eq_bool (w_res rfl) w_lit) rfl
theorem attach_call {l:OpenLaw} {n:Nat} {q:Program} {loose:List Str} {XP:(Str->Option Value)->Heap->Prop} {YP:World->Heap->Prop} {d:DefRec}
  (hn:l.most=some n) (hdf:d.params.defaults=[])
  (call:∀ (w:World) (s₀ s₁:Shared) (mg mb:Str->Option Value) (fa:Addr) (o:Obj) (pm cd doc:Value) (a:Addr) (vs:List Value) (ns:List Int),
   Ground q loose [] XP w s₀ mg mb s₁.heap->YP w s₁.heap ->
   s₁.heap.get? fa=some o->o.data=.func (docDef d.name d.params d.body d.scope pm cd doc)->s₁.heap.CodeRec cd d.name->mg d.name=some (.ref fa) ->
   s₁.heap.get? a=some { cls:=.type "list",data:=.seq vs.toArray }->IntsAre vs ns->ns.length<=n->s₁.gens=#[] ->
   codeAny (model l.prog w) callerA (.call (.ref fa) ⟨[.ref a],[]⟩) (fun r s'=>r=.ok (.ret (.bool true))/\OldK s₁.heap s'.heap/\s'.os=s₁.os/\AllBare s'.gens) s₁) :
  WalkO q loose XP YP l.row.toRowW d [] (fun f vs=>fM f vs):=by
 intro w s₀ s₁ mg mb G Y fa o pm cd doc dV kV ho hd hcd hD hmg hg args vals as hpre hlay hrd hwl hlo
 obtain rfl:dV=.none:=Dflts.none hD hdf
 obtain rfl:kV=.none:=Dflts.noKw hD
 obtain ⟨a,vs,ns,rfl,rfl,hobj,hints,hlen⟩:=UX hn hpre hwl
 refine enter_call (codeAny_mono (call w s₀ s₁ mg mb fa o pm cd doc a vs ns G Y ho (fd_plain hd) hcd hmg hobj hints hlen hg) fun r s' hq=>?_)
 obtain ⟨rfl,h2,h3,h4⟩:=hq
 exact ⟨.inl ⟨.bool true,.bool true,[],rfl,fun _=>rfl,.bool true,UY l _,fun _=>⟨d8,fun _ hm=>(nomatch hm)⟩⟩,h2,h3,h4⟩
end Att
namespace L2
open PySem PySem.Spec PyProof.Rows
theorem QU:∀ {vs:List Value} {ns:List Int},IntsAre vs ns->Vals (ns.map V.int) vs
 | _,_,.nil=>.nil
 | _,_,.cons n t h=>.cons ⟨t,rfl⟩ (QU h)
def qe5 (H:Hp):Prop:=∀ b,H b=none\/∃ o xs,H b=some (.frz o (.lst xs))
theorem ZQ {P:Program} {w:World} {K:Frag} {mg mb:Str->Option Value} {CX:CXT} {k:Nat} {fa a:Addr} {fd:FuncData} {x:Str} {sp:Sp} {s₁:Shared} {vs:List Value} {ns:List Int}
  (KX:K.In s₁.heap) (hns:s₁.heap.Ns mainGlobals mg) (hb:s₁.heap.Ns builtinsNs mb) (hbb:∀ x:Str,x ≠ "__name__"->mb x=bootBuiltins x) (hlim:s₁.heap.NoLimit) (hg:s₁.gens=#[])
  (ha:s₁.heap.get? a=some { cls:=.type "list",data:=.seq vs.toArray }) (hi:IntsAre vs ns) (hl:ns.length<=sizeLine) (hr:Room k callerA)
  (F:∀ base:Heap,K.In base->base.Ns mainGlobals mg->FnOk P w K mg base CX k fa fd [x] sp) (hbind:∀ (s:Shared) (u:Value),BindsTo s fd ⟨[u],[]⟩ [(x,u)])
  (hsp:∀ H:Hp,qe5 H->SqL K H a (ns.map V.int)->sp [.ref a] H (fun v _=>v=.bl true) fun _ _ _=>False)
  (hCX:∀ H e s',CX [] H s₁ (fun _ _ _=>False) e s'->False) :
  codeAny (model P w) callerA (.call (.ref fa) ⟨[.ref a],[]⟩) (fun r s'=>r=.ok (.ret (.bool true))/\OldK s₁.heap s'.heap/\s'.os=s₁.os/\AllBare s'.gens) s₁:=by
 have rv:=QU hi
 have lenV:=hi.length
 have core:∀ H:Hp,qe5 H->SqL K H a (ns.map V.int)->HOk P w H s₁.heap->(∀ b,H b≠none->b=a)->(H a≠none->K.lookup a=none) ->
   codeAny (model P w) callerA (.call (.ref fa) ⟨[.ref a],[]⟩) (fun r s'=>r=.ok (.ret (.bool true))/\OldK s₁.heap s'.heap/\s'.os=s₁.os/\AllBare s'.gens) s₁:=by
  intro H hO hS hok hA hK
  have base_of:∀ {b:Addr} {o:Obj},s₁.heap.get? b=some o->H b=none->(Zw s₁.heap H).get? b=some o:=fun e n=>Zx e n
  have noA:∀ {b:Addr} {o:Obj} {es:Array DictEntry} {ep:Nat},s₁.heap.get? b=some o->o.data=.dict es ep->H b=none:=fun {b o es ep} e d=>by
   cases q:H b with
   | none=>rfl
   | some u=>
    have e':b=a:=hA b (by rw [q]; simp)
    subst e'
    rw [ha] at e; cases e
    have d':Data.seq vs.toArray _=Data.dict es ep:=d
    cases d'
  have nsK:∀ {b:Addr} {m:Str->Option Value},s₁.heap.Ns b m->(Zw s₁.heap H).Ns b m:=fun {b m} ⟨o,es,ep,e,d,r⟩=>⟨o,es,ep,base_of e (noA e d),d,r⟩
  have hKb:K.In (Zw s₁.heap H):=fun b o e=>base_of (KX b o e) (by
   cases q:H b with
   | none=>rfl
   | some u=>
    have e':b=a:=hA b (by rw [q]; simp)
    subst e'
    rw [hK (by rw [q]; simp)] at e; cases e)
  have hM:Mod K mg (Zw s₁.heap H):=⟨hKb,nsK hns,⟨mb,nsK hb,hbb⟩,let ⟨mc,h1,h2⟩:=hlim; ⟨mc,nsK h1,h2⟩⟩
  have e0:Env0 P w K mg (Zw s₁.heap H) callerA [] s₁ H:=⟨rfl,hM,fun b o e=>qbc e,dY (UD _ _),trivial,fun b hb=>absurd (show b∈([]:List Addr) from hb) (by simp),hok,.of_eq hg⟩
  refine codeAny_mono ((F _ hKb (nsK hns)).run callerA [] s₁ H ⟨[.ref a],[]⟩ [.ref a] [.ref a] _ _ hr e0 (hbind s₁ (.ref a)) (.cons rfl .nil) (hsp H hO hS)) fun r s' h=>?_
  cases r with
  | error e=>exact (hCX H e s' h).elim
  | ok fl=>
   cases fl with
   | next=>exact cC h
   | brk=>exact cC h
   | cont=>exact cC h
   | ret u=>
    obtain ⟨v,H',os,bare,un,hok',r',q⟩:=h
    have q':v=.bl true:=q
    subst q'
    obtain rfl:u=cV true:=r'
    refine ⟨rfl,OldK.of_keep fun b o e=>?_,os,bare⟩
    cases q:H b with
    | none=>exact un.keep b o e q (by intro z; exact absurd (show b∈([]:List Addr) from z) (by simp)) (by simp)
    | some u=>
     rcases hO b with z | ⟨ob,xs,z⟩
     ·rw [q] at z; cases z
     ·have z2:=un.frzs b ob _ z
      obtain ⟨e1,_⟩:=hok b _ z
      obtain ⟨e2,_⟩:=hok' b _ z2
      rw [e] at e1; cases e1
      exact e2
 cases hk:K.lookup a with
 | some o=>
  have e:=KX a o hk
  rw [ha] at e
  cases e
  refine core (fun _=>none) (fun _=>.inl rfl) (.inr ⟨_,vs.toArray,_,hk,rfl,rfl,rfl,by rw [ak,lenV]; exact hl,by simpa using rv⟩) (fun b u z=>by have z':(none:Option HO)=some u:=z; cases z') (fun b z=>absurd rfl z) fun z=>absurd rfl z
 | none=>
  refine core (fun b=>if b=a then some (.frz { cls:=.type "list",data:=.seq vs.toArray } (.lst (ns.map V.int))) else none) (fun b=>?_) (.inl (.inr ⟨{ cls:=.type "list",data:=.seq vs.toArray },if_pos rfl⟩)) (fun b u z=>?_) (fun b z=>?_) fun _=>hk
  ·by_cases hb:b=a
   ·exact .inr ⟨_,_,if_pos hb⟩
   ·exact .inl (if_neg hb)
  ·by_cases hb:b=a
   ·have z':=(if_pos hb).symm.trans z
    cases z'
    subst hb
    exact ⟨ha,by rw [aG]; exact hl,vs,_,rv,ha⟩
   ·have z':=(if_neg hb).symm.trans z
    cases z'
  ·by_cases hb:b=a
   ·exact hb
   ·exact absurd (if_neg hb) z
theorem qbv {l:fz} {n k:Nat} {q:Program} {loose:List Str} {XP:(Str->Option Value)->Heap->Prop} {YP:World->Heap->Prop} {d:DefRec} {K:Params->Frag} {CX:World->CXT} {sp:World->Sp} {x:Str}
  (hn:l.most=some n) (hn2:n<=sizeLine) (hdf:d.params.defaults=[]) (hr:Room k callerA)
  (hY:∀ (w:World) (h:Heap),YP w h->(K w.params).In h)
  (F:∀ (w:World) (mg:Str->Option Value) (fa:Addr) (h:Heap),(K w.params).In h->h.Ns mainGlobals mg->mg d.name=some (.ref fa) ->
   ∃ fd:FuncData,(∀ (s:Shared) (u:Value),BindsTo s fd ⟨[u],[]⟩ [(x,u)]) /\
    ∀ base:Heap,(K w.params).In base->base.Ns mainGlobals mg->FnOk l.prog w (K w.params) mg base (CX w) k fa fd [x] (sp w))
  (hsp:∀ (w:World) (H:Hp) (a:Addr) (ns:List Int),ns.length<=n->qe5 H->SqL (K w.params) H a (ns.map V.int)->sp w [.ref a] H (fun v _=>v=.bl true) fun _ _ _=>False)
  (hCX:∀ (w:World) (H:Hp) (s:Shared) (e:Value) (s':Shared),CX w [] H s (fun _ _ _=>False) e s'->False) :
  PySem.W.WalkO q loose XP YP l.row.toRowW d [] (fun f vs=>fM f vs):=by
 refine Att.attach_call hn hdf fun w s₀ s₁ mg mb fa o pm cd doc a vs ns G Y ho hd hcd hmg hobj hints hlen hg=>?_
 have KX:=hY w _ Y
 obtain ⟨fd,hb,hF⟩:=F w mg fa _ KX G.T.g hmg
 exact ZQ KX G.T.g G.T.b G.T.builtins G.T.nolimit hg hobj hints (bW hlen hn2) hr hF hb (fun H hO hS=>hsp w H a ns hlen hO hS) fun H e s'=>hCX w H s₁ e s'
noncomputable def xH (s:Stmt) (j:Nat):Stmt:=match s with
 | .ClassDef _ _ _ body _ _ _ _ _ _ _=>body.getD j (.Pass ⟨0,0,0,0⟩)
 | _=>.Pass ⟨0,0,0,0⟩
noncomputable def ww (s:Stmt):Arguments:=match s with
 | .FunctionDef _ a _ _ _ _ _ _ _ _=>a
 | _=>{ posonlyargs:=[],args:=[],vararg:=none,kwonlyargs:=[],kw_defaults:=[],kwarg:=none,defaults:=[] }
noncomputable def jz (s:Stmt):List Stmt:=match s with
 | .FunctionDef _ _ b _ _ _ _ _ _ _=>b
 | _=>[]
noncomputable def qd (s:Stmt):Scope:=match s with
 | .FunctionDef _ _ _ _ _ _ sc _ _ _=>sc
 | _=>{ kind:=.function,names:=[],isGenerator:=false,isCoroutine:=false }
structure Fun (K:Frag) (x qual:Str) (st:Stmt) (f:Addr) (fd:FuncData):Prop where
 ex:∃ (oc:Value) (od:Option Addr) (kV doc pm:Value) (an:Option Addr) (cdv ct:Value) (osl:Array (Option Value)),
  fd=cz x qual (ww st) (jz st) (qd st) .none kV doc pm an cdv ct/\K.lookup f=some ⟨oc,od,.func fd,osl⟩/\codeIn K cdv qual=true
 kp:keepIn K (.ref f)=true
variable {P:Program} {w:World} {K:Frag} {x qual:Str} {st:Stmt} {f:Addr}
section
variable {mg:Str->Option Value} {base:Heap}
theorem Fun.binds {fd:FuncData} {ps:List Str} (F:Fun K x qual st f fd)
  (h:∀ (kV doc pm:Value) (an:Option Addr) (cdv ct:Value) (us:List Value),us.length=ps.length->bindArgs (cz x qual (ww st) (jz st) (qd st) .none kV doc pm an cdv ct) ⟨us,[]⟩=pure (ps.zip us)):Binds K fd ps []:=by
 obtain ⟨oc,od,kV,doc,pm,an,cdv,ct,osl,rfl,lk,hcd⟩:=F.ex
 exact .all (h kV doc pm an cdv ct)
theorem vK {oc:Value} {od an:Option Addr} {osl:Array (Option Value)} {kV doc pm cdv ct:Value} (l:K.lookup f=some ⟨oc,od,.func (cz x qual (ww st) (jz st) (qd st) .none kV doc pm an cdv ct),osl⟩)
  (c:codeIn K cdv qual=true) (k:keepIn K (.ref f)=true):Fun K x qual st f (cz x qual (ww st) (jz st) (qd st) .none kV doc pm an cdv ct):=⟨⟨oc,od,kV,doc,pm,an,cdv,ct,osl,rfl,l,c⟩,k⟩
end
variable {X:Cx}
section
theorem pv (i:Nat) {pos:Pos} (hN:X.N[i]?=some x:=by rfl) (hv:Vis X.env.scope x:=by first | exact aI rfl | exact c9 (aI rfl) | exact c9 (c9 rfl)) (hd:(x == ("__debug__":Str))=false:=by decide)
  (hcd:(x == ("__classdict__":Str))=false:=by decide):PE X (.Name x pos) (qcQ i):=vm hN hv hd hcd
end
def Same (H H':Hp):Prop:=∀ b o,H b=some o->H' b=some o
theorem Same.refl (H:Hp):Same H H:=fun _ _ h=>h
variable {H:Hp}
theorem Same.trans {H1 H2:Hp} (a:Same H H1) (b:Same H1 H2):Same H H2:=fun c o h=>b c o (a c o h)
variable {H':Hp}
theorem Same.free (e:Same H H') {l:Addr} (h:H' l=Option.none):H l=Option.none:=by
 cases q:H l with
 | none=>rfl
 | some o=>
  rw [e l o q] at h
  cases h
variable {a:Addr}
theorem Same.seq {xs:List V} (e:Same H H') (h:SqL K H a xs):SqL K H' a xs:=by
 rcases h with (h | ⟨o,h⟩) | h
 ·exact .inl (.inl (e _ _ h))
 ·exact .inl (.inr ⟨o,e _ _ h⟩)
 ·exact .inr h
variable {o:Option V} {u:Value} {y:V}
section
variable {κ:Type} [DecidableEq κ]
noncomputable def VN (kvs:List (κ×V)) (k:κ):Option V:=(kvs.find? fun kv=>decide (kv.1=k)).map (·.2)
noncomputable def Kg (kvs:List (κ×V)) (k:κ) (v:V):List (κ×V):=
 if (kvs.any fun kv=>decide (kv.1=k))=true then kvs.map (fun kv=>if kv.1=k then (kv.1,v) else kv) else kvs++[(k,v)]
theorem xj {p:κ×V} {r:List (κ×V)} {k:κ} (e:p.1=k):VN (p::r) k=some p.2:=by simp [VN,cZ,e]
theorem xl {p:κ×V} {r:List (κ×V)} {k:κ} (e:¬p.1=k):VN (p::r) k=VN r k:=by simp [VN,cZ,e]
theorem VO (k:κ):∀ kvs:List (κ×V),(kvs.any fun kv=>decide (kv.1=k))=(VN kvs k).isSome
 | []=>rfl
 | p::r=>by
  rw [c7]
  by_cases e:p.1=k
  ·simp only [xj e,decide_eq_true e,Bool.true_or,Option.isSome_some]
  ·rw [xl e,decide_eq_false e,Bool.false_or]; exact VO k r
theorem Ks (kvs:List (κ×V)) (k:κ) (v:V):(Kg kvs k v).length<=kvs.length+1:=by
 unfold Kg
 split
 ·rw [aG]; omega
 ·rw [am,ae,aq]; omega
theorem RelO.isSome_eq {u:Option Value} (r:RelO o u):o.isSome=u.isSome:=by
 cases o with
 | none=>cases u with
  | none=>rfl
  | some _=>exact (show False from r).elim
 | some _=>cases u with
  | none=>exact (show False from r).elim
  | some _=>rfl
theorem KV.val {kvs:List (κ×V)} {vs:List (κ×Value)} (r:KV kvs vs) (k:κ):RelO (VN kvs k) (valueAt vs k):=by
 unfold KV at r
 induction r with
 | nil=>exact dP
 | @cons p q ps qs h t ih=>
  obtain ⟨h1,h2⟩:=h
  by_cases e:p.1=k
  ·have e':q.1=k:=h1.symm.trans e
   have b:valueAt (q::qs) k=some q.2:=by simp [valueAt,cZ,e']
   rw [xj e,b]; exact h2
  ·have e':¬q.1=k:=fun z=>e (h1.trans z)
   have b:valueAt (q::qs) k=valueAt qs k:=by simp [valueAt,cZ,e']
   rw [xl e,b]; exact ih
theorem KV.any {kvs:List (κ×V)} {vs:List (κ×Value)} (r:KV kvs vs) (k:κ):(kvs.any fun kv=>decide (kv.1=k))=vs.any fun kv=>decide (kv.1=k):=by
 unfold KV at r
 induction r with
 | nil=>rfl
 | cons h t ih=>rw [c7,c7,ih,h.1]
theorem KV.repl {kvs:List (κ×V)} {vs:List (κ×Value)} (r:KV kvs vs) (k:κ) (ry:RelV y u) :
  KV (kvs.map fun kv=>if kv.1=k then (kv.1,y) else kv) (vs.map fun kv=>if kv.1=k then (kv.1,u) else kv):=by
 unfold KV at r ⊢
 induction r with
 | nil=>exact .nil
 | @cons p q ps qs h t ih=>
  rw [aA,aA]
  refine .cons ?_ ih
  obtain ⟨h1,h2⟩:=h
  by_cases e:p.1=k
  ·rw [if_pos e,if_pos (h1.symm.trans e)]; exact ⟨h1,ry⟩
  ·rw [if_neg e,if_neg (fun z=>e (h1.trans z))]; exact ⟨h1,h2⟩
theorem KV.put {kvs:List (κ×V)} {vs:List (κ×Value)} (r:KV kvs vs) (k:κ) (ry:RelV y u):KV (Kg kvs k y) (stored vs k u):=by
 unfold Kg stored
 rw [r.any k]
 by_cases e:(vs.any fun kv=>decide (kv.1=k))=true
 ·rw [if_pos e,if_pos e]; exact r.repl k ry
 ·rw [if_neg e,if_neg e]; exact Paired.snoc r ⟨rfl,ry⟩
theorem KV.keys {kvs:List (κ×V)} {vs:List (κ×Value)} (r:KV kvs vs):kvs.map (·.1)=vs.map (·.1):=by
 unfold KV at r
 induction r with
 | nil=>rfl
 | cons h t ih=>rw [aA,aA,ih,h.1]
theorem KV.length {kvs:List (κ×V)} {vs:List (κ×Value)} (r:KV kvs vs):kvs.length=vs.length:=fB r
end
theorem ZR {k:Key} (r:RelV (kV k) u):(jh P w).is k u=true:=by
 cases k with
 | inl i=>obtain ⟨t,e⟩:=(show ∃ t,u=c6 i t from r); subst e; exact Kk P w i t
 | inr x=>obtain ⟨t,e⟩:=(show ∃ t,u=e9 x t from r); subst e; exact Kl P w x t
theorem QV:∀ {ks:List Key} {us:List Value},Vals (ks.map kV) us->ItemsAre (jh P w) ks us
 | [],_,r=>by rw [aT] at r; cases r; exact .nil
 | k::ks,_,r=>by
  rw [aA] at r
  cases r with
  | cons h t=>exact .cons (ZR h) (QV t)
abbrev KT (H:Hp):List (List Key×V)->List (List Key×Addr×Value)->Prop:=Paired fun p q=>p.1=q.1/\H q.2.1=some (.tup (p.1.map kV))/\RelV p.2 q.2.2
variable {xs:List (List Key×Addr×Value)} {kvs:List (List Key×V)}
theorem KT.val (r:KT H kvs xs) (k:List Key):RelO (VN kvs k) ((atKey xs k).map (·.2)):=by
 induction r with
 | nil=>exact dP
 | @cons p q ps qs h t ih=>
  obtain ⟨h1,_,h2⟩:=h
  by_cases e:p.1=k
  ·have e':q.1=k:=h1.symm.trans e
   have b:atKey (q::qs) k=some q.2:=by simp [atKey,cZ,e']
   rw [xj e,b]; exact h2
  ·have e':¬q.1=k:=fun z=>e (h1.trans z)
   have b:atKey (q::qs) k=atKey qs k:=by simp [atKey,cZ,e']
   rw [xl e,b]; exact ih
theorem KT.keeps (r:KT H kvs xs) (ht:∀ b ys,H b=some (.tup ys)->H' b=some (.tup ys)):KT H' kvs xs:=
 Paired.mapP r fun _ _ z=>⟨z.1,ht _ _ z.2.1,z.2.2⟩
section
variable {h:Heap}
theorem qdg {u:HO} (ok:HOk P w H h) (e:Rd H a u):ObjOk P w H h a u:=e.ok ok
theorem UZ {kvs:List (Key×V)} (ok:HOk P w H h) (e:Rd H a (.dK kvs)):kvs.length<=sizeLine/\(a == sysModules)=false/\∃ vs,KV kvs vs/\h.DictOf (jh P w) a vs:=
 show ObjOk P w H h a (.dK kvs) from qdg ok e
theorem ge {ks:List Key} (ok:HOk P w H h) (e:H a=some (.tup (ks.map kV))):(tupleKind (jh P w)).is h ks a:=by
 obtain ⟨_,its,r,o,h1,h2,n,h3⟩:=(show ObjOk P w H h a (.tup (ks.map kV)) from ok a _ e)
 exact ⟨o,its.toArray,n,h1,h2,h3,by simpa using QV r⟩
theorem ZS (ok:HOk P w H h) (e:Rd H a (.dT kvs)):kvs.length<=sizeLine/\(a == sysModules)=false /\
  ∃ xs,KT H kvs xs/\h.DictOfH (tupleKind (jh P w)) a xs:=by
 obtain ⟨z,y,xs,r,o,es,ep,h1,h2,h3,h4,h5⟩:=(show ObjOk P w H h a (.dT kvs) from qdg ok e)
 refine ⟨z,y,xs,r,o,es,ep,h1,h2,h3,h4,fun x hx=>?_,h5⟩
 have all:∀ {l:List (List Key×V)} {m:List (List Key×Addr×Value)},KT H l m->∀ x∈m,(tupleKind (jh P w)).is h x.1 x.2.1:=by
  intro l m q
  induction q with
  | nil=>intro x hx; exact nomatch hx
  | @cons p q ps qs hq t ih=>
   intro x hx
   rcases ac.mp hx with e | hx
   ·subst e
    exact ge ok (by rw [<-hq.1]; exact hq.2.1)
   ·exact ih x hx
 exact all r x hx
end
def DGet (H:Hp) (a:Addr) (y:V) (r:Option V):Prop:=
 (∃ kvs k,Rd H a (.dK kvs)/\y=kV k/\r=VN kvs k)\/∃ kvs k b,Rd H a (.dT kvs)/\y=.ref b/\H b=some (.tup (k.map kV))/\r=VN kvs k
def DPut (H:Hp) (a:Addr) (y v:V) (H':Hp):Prop:=
 (∃ kvs k,H a=some (.dK kvs)/\y=kV k/\kvs.length < sizeLine/\H'=upd H a (.dK (Kg kvs k v))) \/
 ∃ kvs k b,H a=some (.dT kvs)/\y=.ref b/\H b=some (.tup (k.map kV))/\kvs.length < sizeLine/\H'=upd H a (.dT (Kg kvs k v))
theorem DGet.k {kvs:List (Key×V)} {k:Key} (e:H a=some (.dK kvs)):DGet H a (kV k) (VN kvs k):=.inl ⟨kvs,k,.inl e,rfl,rfl⟩
theorem DGet.t {b:Addr} {k:List Key} (e:H a=some (.dT kvs)) (eb:H b=some (.tup (k.map kV))):DGet H a (.ref b) (VN kvs k):=.inr ⟨kvs,k,b,.inl e,rfl,eb,rfl⟩
theorem DPut.t {b:Addr} {k:List Key} {v:V} (e:H a=some (.dT kvs)) (eb:H b=some (.tup (k.map kV))) (hl:kvs.length < sizeLine) :
  DPut H a (.ref b) v (upd H a (.dT (Kg kvs k v))):=.inr ⟨kvs,k,b,e,rfl,eb,hl,rfl⟩
variable {pins:List (Addr×Obj)} {σ:St} {s:Shared} {A:Around} {E Q:Value->Shared->Prop}
section
variable {v:V} {r:Value}
theorem Inv.big (I:Inv X pins σ H s):sysModules < s.heap.objs.size:=by
 have h:mainGlobals < s.heap.objs.size:=(I.mod.glob.keeps I.bk).lt
 exact d9 (by decide) h
theorem Yb (hu:A.units+1 < cLine) (I:Inv X pins σ H s) (g:DGet H a y (some v)) (ry:RelV y u) (h:∀ w' s',Inv X pins σ H s'->RelV v w'->Q w' s') :
  wpAny (model X.prog X.w) A (getItem (.ref a) u) Q E s:=by
 rcases g with ⟨kvs,k,e,ey,l⟩ | ⟨kvs,k,b,e,ey,eb,l⟩
 ·subst ey
  obtain ⟨z,hd,vs,rel,dd⟩:=UZ I.hok e
  obtain ⟨w',hw,rw'⟩:=RelO.some_of (v:=v) (o:=valueAt vs k) (by rw [l]; exact rel.val k)
  exact wpAny_getItem_of (ZR ry) dd.mapOf hw (h w' _ (I.tok _) rw')
 ·subst ey
  cases (show u=bQ b from ry)
  obtain ⟨z,hd,xs,rel,dd⟩:=ZS I.hok e
  obtain ⟨w',hw,rw'⟩:=RelO.some_of (v:=v) (o:=(atKey xs k).map (·.2)) (by rw [l]; exact rel.val k)
  obtain ⟨p,hp,hp2⟩:=bP.mp hw
  refine wpAny_getItem_heap (tupleKind_room_in1 hu) (ge I.hok eb) dd hp ?_
  rw [hp2]
  exact h w' _ (I.tok _) rw'
theorem qgi (hu:A.units+1 < cLine) (I:Inv X pins σ H s) (g:DGet H a y o) (ry:RelV y u) (h:∀ s',Inv X pins σ H s'->Q (.bool o.isSome) s') :
  wpAny (model X.prog X.w) A (compareOp .In u (.ref a)) Q E s:=by
 rcases g with ⟨kvs,k,e,ey,l⟩ | ⟨kvs,k,b,e,ey,eb,l⟩
 ·subst ey
  obtain ⟨z,hd,vs,rel,dd⟩:=UZ I.hok e
  refine wpAny_in_of (ZR ry) hd dd.mapOf ?_
  rw [<-(rel.val k).isSome_eq,<-l]
  exact h _ (I.tok _)
 ·subst ey
  cases (show u=bQ b from ry)
  obtain ⟨z,hd,xs,rel,dd⟩:=ZS I.hok e
  refine wpAny_in_heap (tupleKind_room_in1 hu) (ge I.hok eb) hd dd ?_
  have q:=(rel.val k).isSome_eq
  rw [Option.isSome_map] at q
  rw [<-q,<-l]
  exact h _ (I.tok _)
theorem qbw (hu:A.units+1 < cLine) (I:Inv X pins σ H s) (g:DGet H a y o) (ry:RelV y u) (h:∀ s',Inv X pins σ H s'->Q (.bool (!o.isSome)) s') :
  wpAny (model X.prog X.w) A (compareOp .NotIn u (.ref a)) Q E s:=by
 rcases g with ⟨kvs,k,e,ey,l⟩ | ⟨kvs,k,b,e,ey,eb,l⟩
 ·subst ey
  obtain ⟨z,hd,vs,rel,dd⟩:=UZ I.hok e
  refine wpAny_notIn_of (ZR ry) hd dd.mapOf ?_
  rw [<-(rel.val k).isSome_eq,<-l]
  exact h _ (I.tok _)
 ·subst ey
  cases (show u=bQ b from ry)
  obtain ⟨z,hd,xs,rel,dd⟩:=ZS I.hok e
  refine wpAny_notIn_heap (tupleKind_room_in1 hu) (ge I.hok eb) hd dd ?_
  have q:=(rel.val k).isSome_eq
  rw [Option.isSome_map] at q
  rw [<-q,<-l]
  exact h _ (I.tok _)
theorem qdh {H':Hp} {h':Heap} {kvs:List (Key×V)} {vs:List (Key×Value)} (z:kvs.length<=sizeLine) (hd:(a == sysModules)=false) (rel:KV kvs vs) (dd:h'.DictOf (jh P w) a vs) :
  ObjOk P w H' h' a (.dK kvs):=⟨z,hd,vs,rel,dd⟩
end
section
variable {kvs:List (Key×V)} {k:Key}
theorem qe6 (I:Inv X pins σ H s) (e:Rd H a (.dK kvs)) (h:∀ t s',Inv X pins σ H s'->Q (.int kvs.length t) s'):wpAny (model X.prog X.w) A (call (.builtin "len") [.ref a]) Q E s:=by
 obtain ⟨z,hd,vs,rel,dd⟩:=UZ I.hok e
 refine call_len_dict hd dd (by rw [<-rel.length]; rw [sizeLine_eq] at z; omega) ?_
 rw [<-rel.length]
 exact h _ _ (I.tok _)
end
theorem Kt (I:Inv X pins σ H s) (g:DGet H a y o):s.TypeIs (.ref a) "dict":=by
 rcases g with ⟨kvs,k,e,_,_⟩ | ⟨kvs,k,b,e,_,_,_⟩
 ·obtain ⟨_,_,vs,_,dd⟩:=UZ I.hok e
  exact dd.typeIs
 ·obtain ⟨_,_,xs,_,dd⟩:=ZS I.hok e
  exact dd.typeIs
structure M1 (X:Cx) (o:Expr) (m:Str) (apos:Pos) (e:Expr) (cpos:Pos):Prop where
 base:attributeBase o m X.env (eval o X.env)=eval o X.env
 few:((backTo cpos (starEach [e] X.env)).all (fun x=>!x.1)&&(backToKw cpos (keywordEach [] X.env)).all (fun x=>x.1.isSome)
  && decide (([e]:List Expr).length+([]:List Keyword).length+(if ([]:List Keyword).isEmpty then 0 else 1) < 30))=true
 line:(apos.endLine == cpos.line)=true
 trees:backTo cpos (starEach [e] X.env)=[(false,eval e X.env)]
section
theorem Yc:um X (.builtin "len") (fun xs H Q=>∃ a kvs,xs=[V.ref a]/\H a=some (.dK kvs)/\Q (.int kvs.length) H):=by
 intro pins s σ H xs us Q I r h
 obtain ⟨a,kvs,rfl,ha,q⟩:=h
 obtain ⟨u,rfl,ru⟩:=xc r
 cases ru
 exact qe6 I (.inl ha) fun t s' I'=>⟨.int kvs.length,H,I',⟨t,rfl⟩,q⟩
end
end L2
namespace L2.D2
open PySem PySem.Spec PyProof.Rows
variable {b:List Nat}
theorem wl {a:List Nat} (h:(a.all fun i=>decide (i∈b))=true):∀ i∈a,i∈b:=fun i hi=>of_decide_eq_true (aZ.mp h i hi)
theorem uo {i:Nat} (h:decide (i∈b)=false):i∉b:=of_decide_eq_false h
noncomputable def Ku:Expr->Bool
 | .Starred ..=>false
 | _=>true
variable {e:Expr} {env:Env}
theorem jk {es:List Expr} (h:Ku e=true):starEach (e::es) env=(false,eval e env)::starEach es env:=by cases e <;> first | rfl | cases h
theorem qO (h:Ku e=true):starEach [e] env=[(false,eval e env)]:=jk h
theorem ZT {a b:Expr} (h:Ku a=true) (k:Ku b=true):starEach [a,b] env=[(false,eval a env),(false,eval b env)]:=by rw [jk h,qO k]
variable {pos:Pos}
theorem wX:∀ {es:List Expr},es.all Ku=true->(backTo pos (starEach es env)).any (·.1)=false
 | [],_=>rfl
 | e::es,h=>by
  rw [dH,aP] at h
  rw [jk h.1]
  exact wX h.2
theorem uM (h:Ku e=true):((backTo pos (starEach [e] env)).all (fun x=>!x.1)&&(backToKw pos (keywordEach [] env)).all (fun x=>x.1.isSome)
   && decide ([e].length+([]:List Keyword).length+(if ([]:List Keyword).isEmpty then 0 else 1) < 30))=true:=by rw [qO h]; rfl
inductive D where
 | non | bl (b:Bool) | int (i:Int) | str (x:Str)
 | tup (xs:List D) | lst (xs:List D) | dct (kvs:List (Key×D)) | raw (v:V)
 | xcp (C:Addr) | ins (C:Addr) (fs:List (Str×D)) | at_ (a:Addr) (xs:List D)
 deriving Inhabited
abbrev Sl:=List (Option D)
inductive Out (α:Type) where
 | ok (a:α) | exc (c:Str) (o:Sl) | bad
variable {α β:Type}
noncomputable def Out.bind (o:Out α) (k:α->Out β):Out β:=match o with
 | .ok a=>k a
 | .exc c o=>.exc c o
 | .bad=>.bad
@[simp] theorem Out.ok_bind (a:α) (k:α->Out β):(Out.ok a).bind k=k a:=rfl
@[simp] theorem Out.exc_bind (c:Str) (o:Sl) (k:α->Out β):(Out.exc c o:Out α).bind k=.exc c o:=rfl
@[simp] theorem Out.bad_bind (k:α->Out β):(Out.bad:Out α).bind k=.bad:=rfl
noncomputable def VP (a C:Addr):HO:=.ext fun h=>∃ oe vs,h.get? a=some oe/\oe.cls=.ref C/\oe.data=.fields vs
mutual
/-- the value v is the data d,all its objects in F -/
inductive Is (K:Frag) (F:Hp):V->D->Prop
 | non:Is K F .non .non
 | bl (b:Bool):Is K F (.bl b) (.bl b)
 | int (i:Int):Is K F (.int i) (.int i)
 | str {x:Str} (h:x.length<=sizeLine):Is K F (.str x) (.str x)
 | tup {a:Addr} {xs:List V} {ds:List D} (h:SqT K F a xs) (t:IsL K F xs ds):Is K F (.ref a) (.tup ds)
 | lst {a:Addr} {xs:List V} {ds:List D} (h:SqL K F a xs) (t:IsL K F xs ds):Is K F (.ref a) (.lst ds)
 | dct {a:Addr} {kv:List (Key×V)} {kvs:List (Key×D)} (h:F a=some (.dK kv)) (t:IsK K F kv kvs):Is K F (.ref a) (.dct kvs)
 | raw (v:V):Is K F v (.raw v)
 | xcp {a C:Addr} (h:F a=some (VP a C)):Is K F (.ref a) (.xcp C)
 | ins {a C dx:Addr} {fv:List (Str×V)} {fs:List (Str×D)} (h:F a=some (.ins C dx fv)) (t:IsF K F fv fs):Is K F (.ref a) (.ins C fs)
 | at_ {a:Addr} {xs:List V} {ds:List D} (h:SqL K F a xs) (t:IsL K F xs ds):Is K F (.ref a) (.at_ a ds)
inductive IsL (K:Frag) (F:Hp):List V->List D->Prop
 | nil:IsL K F [] []
 | cons {v:V} {d:D} {vs:List V} {ds:List D} (h:Is K F v d) (t:IsL K F vs ds):IsL K F (v::vs) (d::ds)
inductive IsK (K:Frag) (F:Hp):List (Key×V)->List (Key×D)->Prop
 | nil:IsK K F [] []
 | cons {k:Key} {v:V} {d:D} {vs:List (Key×V)} {ds:List (Key×D)} (h:Is K F v d) (t:IsK K F vs ds):IsK K F ((k,v)::vs) ((k,d)::ds)
inductive IsF (K:Frag) (F:Hp):List (Str×V)->List (Str×D)->Prop
 | nil:IsF K F [] []
 | cons {k:Str} {v:V} {d:D} {vs:List (Str×V)} {ds:List (Str×D)} (h:Is K F v d) (t:IsF K F vs ds):IsF K F ((k,v)::vs) ((k,d)::ds)
end
theorem qD {K:Frag} {H H':Hp} {a:Addr} {xs:List V} (e:Same H H') (h:SqT K H a xs):SqT K H' a xs:=by
 rcases h with (h | ⟨o,h⟩) | h
 ·exact .inl (.inl (e _ _ h))
 ·exact .inl (.inr ⟨o,e _ _ h⟩)
 ·exact .inr h
mutual
theorem Is.mono {K:Frag} {F F':Hp} (e:Same F F'):∀ {v:V} {d:D},Is K F v d->Is K F' v d
 | _,_,.non=>.non
 | _,_,.bl b=>.bl b
 | _,_,.int i=>.int i
 | _,_,.str h=>.str h
 | _,_,.tup h t=>.tup (qD e h) (IsL.mono e t)
 | _,_,.lst h t=>.lst (e.seq h) (IsL.mono e t)
 | _,_,.dct h t=>.dct (e _ _ h) (IsK.mono e t)
 | _,_,.raw v=>.raw v
 | _,_,.xcp h=>.xcp (e _ _ h)
 | _,_,.ins h t=>.ins (e _ _ h) (IsF.mono e t)
 | _,_,.at_ h t=>.at_ (e.seq h) (IsL.mono e t)
theorem IsL.mono {K:Frag} {F F':Hp} (e:Same F F'):∀ {vs:List V} {ds:List D},IsL K F vs ds->IsL K F' vs ds
 | _,_,.nil=>.nil
 | _,_,.cons h t=>.cons (Is.mono e h) (IsL.mono e t)
theorem IsK.mono {K:Frag} {F F':Hp} (e:Same F F'):∀ {vs:List (Key×V)} {ds:List (Key×D)},IsK K F vs ds->IsK K F' vs ds
 | _,_,.nil=>.nil
 | _,_,.cons h t=>.cons (Is.mono e h) (IsK.mono e t)
theorem IsF.mono {K:Frag} {F F':Hp} (e:Same F F'):∀ {vs:List (Str×V)} {ds:List (Str×D)},IsF K F vs ds->IsF K F' vs ds
 | _,_,.nil=>.nil
 | _,_,.cons h t=>.cons (Is.mono e h) (IsF.mono e t)
end
theorem IsL.length {K:Frag} {F:Hp}:∀ {vs:List V} {ds:List D},IsL K F vs ds->vs.length=ds.length
 | _,_,.nil=>rfl
 | _,_,.cons _ t=>congrArg (·+1) (IsL.length t)
theorem IsL.get {K:Frag} {F:Hp}:∀ {vs:List V} {ds:List D} {i:Nat} {v:V},IsL K F vs ds->vs[i]?=some v->∃ d,ds[i]?=some d/\Is K F v d
 | _,_,_,_,.nil,e=>by simp at e
 | _,_,0,_,.cons h _,e=>by simp at e; subst e; exact ⟨_,rfl,h⟩
 | _,_,i+1,v,.cons _ t,e=>by
  obtain ⟨d,h1,h2⟩:=IsL.get (i:=i) (v:=v) t (by simpa using e)
  exact ⟨d,by simpa using h1,h2⟩
theorem IsL.getD {K:Frag} {F:Hp}:∀ {vs:List V} {ds:List D} {i:Nat} {d:D},IsL K F vs ds->ds[i]?=some d->∃ v,vs[i]?=some v/\Is K F v d
 | _,_,_,_,.nil,e=>by simp at e
 | _,_,0,_,.cons h _,e=>by simp at e; subst e; exact ⟨_,rfl,h⟩
 | _,_,i+1,v,.cons _ t,e=>by
  obtain ⟨d,h1,h2⟩:=IsL.getD (i:=i) (d:=v) t (by simpa using e)
  exact ⟨d,by simpa using h1,h2⟩
theorem IsL.append {K:Frag} {F:Hp}:∀ {vs ws:List V} {ds es:List D},IsL K F vs ds->IsL K F ws es->IsL K F (vs++ws) (ds++es)
 | _,_,_,_,.nil,s=>s
 | _,_,_,_,.cons h t,s=>.cons h (IsL.append t s)
theorem IsL.drop {K:Frag} {F:Hp}:∀ {vs:List V} {ds:List D} (n:Nat),IsL K F vs ds->IsL K F (vs.drop n) (ds.drop n)
 | _,_,0,r=>r
 | _,_,_+1,.nil=>.nil
 | _,_,n+1,.cons _ t=>IsL.drop n t
theorem IsL.take {K:Frag} {F:Hp}:∀ {vs:List V} {ds:List D} (n:Nat),IsL K F vs ds->IsL K F (vs.take n) (ds.take n)
 | _,_,0,_=>.nil
 | _,_,_+1,.nil=>.nil
 | _,_,n+1,.cons h t=>.cons h (IsL.take n t)
theorem IsL.set {K:Frag} {F:Hp} {v:V} {d:D} (h:Is K F v d):∀ {vs:List V} {ds:List D} (i:Nat),IsL K F vs ds->IsL K F (vs.set i v) (ds.set i d)
 | _,_,_,.nil=>.nil
 | _,_,0,.cons _ t=>.cons h t
 | _,_,i+1,.cons q t=>.cons q (IsL.set h i t)
theorem IsL.reverse {K:Frag} {F:Hp}:∀ {vs:List V} {ds:List D},IsL K F vs ds->IsL K F vs.reverse ds.reverse
 | _,_,.nil=>.nil
 | _,_,.cons h t=>by
  rw [d7,d7]
  exact (IsL.reverse t).append (.cons h .nil)
def OwnIs (K:Frag) (F H:Hp) (a:Addr):D->Prop
 | .lst ds=>∃ xs,H a=some (.lst xs)/\IsL K F xs ds
 | .dct kvs=>∃ kv,H a=some (.dK kv)/\IsK K F kv kvs
 | .ins C fs=>∃ dx fv,H a=some (.ins C dx fv)/\IsF K F fv fs
 | .at_ b ds=>b=a/\∃ xs,H a=some (.lst xs)/\IsL K F xs ds
 | _=>False
def TopIs (K:Frag) (F H:Hp) (v:V) (d:D):Prop:=Is K F v d\/∃ a,v=.ref a/\OwnIs K F H a d
inductive Mo where
 | sh | fr | any
def MoIs (K:Frag) (m:Mo) (H0 F H:Hp) (v:V) (d:D):Prop:=match m with
 | .sh=>Is K F v d
 | .fr=>∃ a,v=.ref a/\H0 a=none/\F a=none/\OwnIs K F H a d
 | .any=>TopIs K F H v d
theorem MoIs.top {K:Frag} {m:Mo} {H0 F H:Hp} {v:V} {d:D} (h:MoIs K m H0 F H v d):TopIs K F H v d:=by
 cases m with
 | sh=>exact .inl h
 | fr=>obtain ⟨a,e,_,_,o⟩:=h; exact .inr ⟨a,e,o⟩
 | any=>exact h
structure Chg (A:Addr->Prop) (F H F' H':Hp):Prop where
 keep:∀ b o,H b=some o->¬A b->H' b=some o
 stay:∀ b,H b≠none->H' b≠none
 grow:Same F F'
 new:∀ b,F' b≠none->F b≠none\/H b=none\/A b
theorem Chg.refl {A:Addr->Prop} {F H:Hp}:Chg A F H F H:=⟨fun _ _ e _=>e,fun _ h=>h,Same.refl _,fun _ h=>.inl h⟩
theorem Chg.trans {A A1:Addr->Prop} {F H F1 H1 F2 H2:Hp} (a:Chg A F H F1 H1) (b:Chg A1 F1 H1 F2 H2) (hA:∀ x,A1 x->A x\/H x=none):Chg A F H F2 H2 where
 keep:=fun x o e n=>b.keep x o (a.keep x o e n) fun z=>(hA x z).elim n fun q=>by rw [e] at q; cases q
 stay:=fun x h=>b.stay x (a.stay x h)
 grow:=a.grow.trans b.grow
 new:=fun x h=>by
  rcases b.new x h with q | q | q
  ·exact a.new x q
  ·refine .inr (.inl ?_)
   cases e:H x with
   | none=>rfl
   | some o=>exact absurd q (a.stay x (by rw [e]; simp))
  ·rcases hA x q with z | z
   ·exact .inr (.inr z)
   ·exact .inr (.inl z)
theorem Chg.trans' {A:Addr->Prop} {F H F1 H1 F2 H2:Hp} (a:Chg A F H F1 H1) (b:Chg A F1 H1 F2 H2):Chg A F H F2 H2:=a.trans b fun _ z=>.inl z
theorem Chg.mono {A A':Addr->Prop} {F H F1 H1:Hp} (a:Chg A F H F1 H1) (h:∀ x,A x->A' x):Chg A' F H F1 H1:=
 ⟨fun b o e n=>a.keep b o e fun z=>n (h b z),a.stay,a.grow,fun b z=>(a.new b z).imp id (Or.imp id (h b))⟩
abbrev No:Addr->Prop:=fun _=>False
theorem Chg.ofNo {A:Addr->Prop} {F H F1 H1:Hp} (a:Chg No F H F1 H1):Chg A F H F1 H1:=a.mono fun _ z=>z.elim
structure Rep (K:Frag) (own:List Nat) (F H:Hp) (σ:St) (ρ:Sl):Prop where
 sub:Same F H
 len:σ.length=ρ.length
 val:∀ i d,i∉own->ρ[i]?=some (some d)->∃ v,σ[i]?=some (some v)/\Is K F v d
 ow:∀ i d,i∈own->ρ[i]?=some (some d)->∃ a,σ[i]?=some (some (.ref a))/\F a=none/\OwnIs K F H a d
 opn:∀ i,i∈own->∃ d,ρ[i]?=some (some d)
 dis:∀ i j a,i∈own->j∈own->σ[i]?=some (some (V.ref a))->σ[j]?=some (some (V.ref a))->i=j
def OA (own:List Nat) (σ:St):Addr->Prop:=fun b=>∃ i∈own,σ[i]?=some (some (V.ref b))
theorem OwnIs.there {K:Frag} {F H:Hp} {a:Addr} {d:D} (h:OwnIs K F H a d):H a≠none:=by
 cases d with
 | lst ds=>obtain ⟨xs,e,_⟩:=h; rw [e]; simp
 | dct ds=>obtain ⟨xs,e,_⟩:=h; rw [e]; simp
 | ins C fs=>obtain ⟨dx,xs,e,_⟩:=h; rw [e]; simp
 | at_ b ds=>obtain ⟨_,xs,e,_⟩:=h; rw [e]; simp
 | _=>exact h.elim
theorem OwnIs.grow {K:Frag} {F H F' H':Hp} {a:Addr} {d:D} (h:OwnIs K F H a d) (g:Same F F') (k:∀ o,H a=some o->H' a=some o):OwnIs K F' H' a d:=by
 cases d with
 | lst ds=>obtain ⟨xs,e,t⟩:=h; exact ⟨xs,k _ e,t.mono g⟩
 | dct ds=>obtain ⟨xs,e,t⟩:=h; exact ⟨xs,k _ e,t.mono g⟩
 | ins C fs=>obtain ⟨dx,xs,e,t⟩:=h; exact ⟨dx,xs,k _ e,t.mono g⟩
 | at_ b ds=>obtain ⟨eb,xs,e,t⟩:=h; exact ⟨eb,xs,k _ e,t.mono g⟩
 | _=>exact h.elim
theorem Rep.OA_there {K:Frag} {own:List Nat} {F H:Hp} {σ:St} {ρ:Sl} (r:Rep K own F H σ ρ) {b:Addr} (h:OA own σ b):H b≠none/\F b=none:=by
 obtain ⟨i,hi,e⟩:=h
 obtain ⟨d,hd⟩:=r.opn i hi
 obtain ⟨a,e1,e2,o⟩:=r.ow i d hi hd
 rw [e] at e1
 cases e1
 exact ⟨o.there,e2⟩
theorem Rep.grow {K:Frag} {own:List Nat} {F H F' H':Hp} {σ:St} {ρ:Sl} (r:Rep K own F H σ ρ) (c:Chg No F H F' H') (s:Same F' H'):Rep K own F' H' σ ρ where
 sub:=s
 len:=r.len
 val:=fun i d hi e=>let ⟨v,h1,h2⟩:=r.val i d hi e; ⟨v,h1,h2.mono c.grow⟩
 ow:=fun i d hi e=>by
  obtain ⟨a,h1,h2,h3⟩:=r.ow i d hi e
  refine ⟨a,h1,?_,h3.grow c.grow fun o q=>c.keep a o q fun z=>z⟩
  cases q:F' a with
  | none=>rfl
  | some o=>
   rcases c.new a (by rw [q]; simp) with z | z | z
   ·exact absurd h2 z
   ·exact absurd z h3.there
   ·exact z.elim
 opn:=r.opn
 dis:=r.dis
theorem MoIs.grow {K:Frag} {A:Addr->Prop} {m:Mo} {H0 F H F' H':Hp} {v:V} {d:D} (h:MoIs K m H0 F H v d) (hm:m≠.any) (c:Chg A F H F' H') (hA:∀ x,A x->H0 x≠none):MoIs K m H0 F' H' v d:=by
 cases m with
 | sh=>exact Is.mono c.grow h
 | fr=>
  obtain ⟨a,e,h0,hF,o⟩:=h
  have nA:¬A a:=fun z=>hA a z h0
  refine ⟨a,e,h0,?_,o.grow c.grow fun o q=>c.keep a o q nA⟩
  cases q:F' a with
  | none=>rfl
  | some u=>
   rcases c.new a (by rw [q]; simp) with z | z | z
   ·exact absurd hF z
   ·exact absurd z o.there
   ·exact absurd z nA
 | any=>exact absurd rfl hm
def UA (K:Frag) (io:List Nat) (F H:Hp) (σ:St) (ρ:Sl):Prop:=∀ i∈io,∃ d a,ρ[i]?=some (some d)/\σ[i]?=some (some (V.ref a))/\F a=none/\OwnIs K F H a d
theorem Rep.ioIs {K:Frag} {own io:List Nat} {F H:Hp} {σ:St} {ρ:Sl} (r:Rep K own F H σ ρ) (h:∀ i∈io,i∈own):UA K io F H σ ρ:=fun i hi=>by
 obtain ⟨d,hd⟩:=r.opn i (h i hi)
 obtain ⟨a,h1,h2,h3⟩:=r.ow i d (h i hi) hd
 exact ⟨d,a,hd,h1,h2,h3⟩
structure Ct where
 K:Frag
 cv:Str->Value
 E:XK
 io:List Nat
 mr:Mo
 ol:List Nat
 ox:List Nat
 oxs:∀ i∈ox,i∈io
def Po (C:Ct) (own:List Nat) (m:Mo) (σ:St) (F H:Hp) (r:Out (D×Sl)) (Q:VK):Prop:=match r with
 | .ok (d,ρ')=>∀ v F' H',Rep C.K own F' H' σ ρ'->Chg (OA own σ) F H F' H'->MoIs C.K m H F' H' v d->Q v H'
 | .exc c ρ'=>∀ F' H',Same F' H'->UA C.K C.ox F' H' σ ρ'->Chg (OA own σ) F H F' H'->C.E (C.cv c) none H'
 | .bad=>False
def tE (C:Ct) (own:List Nat) (m:Mo) (f:Sl->Out (D×Sl)):TE:=fun σ H Q=>∃ F ρ,Rep C.K own F H σ ρ/\Po C own m σ F H (f ρ) Q
theorem MoIs.back {K:Frag} {m:Mo} {A:Addr->Prop} {H0 F H F1 H1:Hp} {Fa Ha:Hp} {v:V} {d:D} (c:Chg A Fa H0 F1 H1) (h:MoIs K m H1 F H v d):MoIs K m H0 F H v d:=by
 cases m with
 | sh=>exact h
 | fr=>
  obtain ⟨a,e,h0,r⟩:=h
  refine ⟨a,e,?_,r⟩
  cases q:H0 a with
  | none=>rfl
  | some o=>exact absurd h0 (c.stay a (by rw [q]; simp))
 | any=>exact h
theorem Po.shift {C:Ct} {own:List Nat} {m:Mo} {σ:St} {F H F1 H1:Hp} {r:Out (D×Sl)} {Q:VK} (h:Po C own m σ F H r Q) (c:Chg (OA own σ) F H F1 H1):Po C own m σ F1 H1 r Q:=by
 cases r with
 | ok p=>exact fun v F' H' rp c' mo=>h v F' H' rp (c.trans' c') (MoIs.back (Ha:=H1) c mo)
 | exc x=>exact fun F' H' s io c'=>h F' H' s io (c.trans' c')
 | bad=>exact h.elim
theorem Po.bind {C:Ct} {own:List Nat} {m ma:Mo} {σ:St} {F H:Hp} {o:Out (D×Sl)} {k:D×Sl->Out (D×Sl)} {Q R:VK} (hp:Po C own m σ F H (o.bind k) Q)
  (h:∀ v F1 H1 d ρ1,Rep C.K own F1 H1 σ ρ1->Chg (OA own σ) F H F1 H1->MoIs C.K ma H F1 H1 v d->Po C own m σ F1 H1 (k (d,ρ1)) Q->R v H1):Po C own ma σ F H o R:=by
 cases o with
 | ok p=>
  obtain ⟨d,ρ1⟩:=p
  exact fun v F1 H1 rp c mo=>h v F1 H1 d ρ1 rp c mo (Po.shift (show Po C own m σ F H (k (d,ρ1)) Q from hp) c)
 | exc x=>exact hp
 | bad=>exact hp.elim
def PoV (C:Ct) (m:Mo) (F H:Hp) (r:Out D) (Q:VK):Prop:=match r with
 | .ok d=>∀ v F' H',Same F' H'->Chg No F H F' H'->MoIs C.K m H F' H' v d->Q v H'
 | _=>False
def OpD (X:Cx) (C:Ct) (m:Mo) (f:Value->Value->Sem Value) (g:D->D->Out D):Prop:=
 OpR X f (fun x y H Q=>∃ F dx dy,Same F H/\TopIs C.K F H x dx/\TopIs C.K F H y dy/\PoV C m F H (g dx dy) Q)
def UnD (X:Cx) (C:Ct) (m:Mo) (f:Value->Sem Value) (g:D->Out D):Prop:=
 UnR X f (fun x H Q=>∃ F dx,Same F H/\TopIs C.K F H x dx/\PoV C m F H (g dx) Q)
noncomputable def Out.plain {α:Type}:Out α->Out α
 | .ok a=>.ok a
 | _=>.bad
theorem PoV.of {C:Ct} {own:List Nat} {m:Mo} {σ:St} {F H:Hp} {o:Out D} {ρ:Sl} {Q:VK} (rp:Rep C.K own F H σ ρ) (h:Po C own m σ F H (o.plain.bind fun d=>.ok (d,ρ)) Q):PoV C m F H o Q:=by
 cases o with
 | ok d=>exact fun v F' H' s c mo=>h v F' H' (rp.grow c s) c.ofNo mo
 | exc c=>exact h.elim
 | bad=>exact h.elim
noncomputable def d2 (g:D->D->Out D) (fa fb:Sl->Out (D×Sl)):Sl->Out (D×Sl):=fun ρ=>(fa ρ).bind fun p=>(fb p.2).bind fun q=>(g p.1 q.1).plain.bind fun d=>.ok (d,q.2)
noncomputable def d1 (g:D->Out D) (fa:Sl->Out (D×Sl)):Sl->Out (D×Sl):=fun ρ=>(fa ρ).bind fun p=>(g p.1).plain.bind fun d=>.ok (d,p.2)
section
variable {X:Cx} {C:Ct} {own:List Nat} {a b:Expr} {fa fb:Sl->Out (D×Sl)} {m ma mb:Mo} {pos:Pos}
theorem QW {g:D->D->Out D} {σ:St} {H:Hp} {Q:VK} (hma:ma≠.any) (h:tE C own m (d2 g fa fb) σ H Q) :
  tE C own ma fa σ H fun x H1=>tE C own mb fb σ H1 fun y H2=>∃ F dx dy,Same F H2/\TopIs C.K F H2 x dx/\TopIs C.K F H2 y dy/\PoV C m F H2 (g dx dy) Q:=by
 obtain ⟨F,ρ,rp,h⟩:=h
 refine ⟨F,ρ,rp,Po.bind h fun v F1 H1 d ρ1 rp1 c1 mo1 h1=>⟨F1,ρ1,rp1,Po.bind h1 fun w F2 H2 e ρ2 rp2 c2 mo2 h2=>?_⟩⟩
 exact ⟨F2,d,e,rp2.sub,(mo1.grow hma c2 fun x z=>(rp.OA_there z).1).top,mo2.top,PoV.of rp2 h2⟩
theorem Yd {g:D->Out D} {σ:St} {H:Hp} {Q:VK} (h:tE C own m (d1 g fa) σ H Q) :
  tE C own ma fa σ H fun x H1=>∃ F dx,Same F H1/\TopIs C.K F H1 x dx/\PoV C m F H1 (g dx) Q:=by
 obtain ⟨F,ρ,rp,h⟩:=h
 refine ⟨F,ρ,rp,Po.bind h fun v F1 H1 d ρ1 rp1 c1 mo1 h1=>?_⟩
 exact ⟨F1,d,rp1.sub,mo1.top,PoV.of rp1 h1⟩
theorem jd {e:Expr} {t t':TE} (h:PE X e t) (i:∀ σ H Q,t' σ H Q->t σ H Q):PE X e t':=⟨fun pins s σ H Q I hw=>h pins s σ H Q I (i σ H Q hw)⟩
theorem Ye {e:Expr} {t t':TT} (h:PT X e t) (i:∀ σ H Q,t' σ H Q->t σ H Q):PT X e t':=⟨fun pins s σ H Q I hw=>h pins s σ H Q I (i σ H Q hw)⟩
theorem jp {op:Operator} {g:D->D->Out D} (ho:OpD X C m (binaryOp op) g) (ha:PE X a (tE C own ma fa)) (hb:PE X b (tE C own mb fb)) (hma:ma≠.any:=by decide):PE X (.BinOp a op b pos) (tE C own m (d2 g fa fb)):=
 jd (qeS ho ha hb) fun _ _ _ h=>QW hma h
theorem uN {op:CmpOp} {g:D->D->Out D} (ho:OpD X C m (compareOp op) g) (ha:PE X a (tE C own ma fa)) (hb:PE X b (tE C own mb fb)) (hma:ma≠.any:=by decide)
  (hk:behindInMarks op b=false:=by first | exact VJ _ | with_unfolding_all rfl):PE X (.Compare a [op] [b] pos) (tE C own m (d2 g fa fb)):=
 jd (UJ ho ha hb hk) fun _ _ _ h=>QW hma h
theorem qbx {op:UnaryOp} {g:D->Out D} (ho:UnD X C m (unaryOp op) g) (ha:PE X a (tE C own ma fa)):PE X (.UnaryOp op a pos) (tE C own m (d1 g fa)):=
 jd (qeT ho ha) fun _ _ _ h=>Yd h
end
instance:DecidableEq Mo:=fun a b=>by cases a <;> cases b <;> first | exact isTrue rfl | exact isFalse (by intro h; cases h)
theorem ZU {K:Frag} {own:List Nat} {H0 F H:Hp} {σ:St} {ρ:Sl} {v:V} {d:D} (rp:Rep K own F H σ ρ) (hA:∀ b,OA own σ b->H0 b≠none) (h:MoIs K .fr H0 F H v d) :
  ∃ F',Rep K own F' H σ ρ/\Same F F'/\Is K F' v d/\∀ b,F' b≠none->F b≠none\/H0 b=none:=by
 obtain ⟨a,rfl,h0,hF,o⟩:=h
 obtain ⟨u,hu⟩:∃ u,H a=some u:=by
  cases q:H a with
  | none=>exact absurd q o.there
  | some u=>exact ⟨u,rfl⟩
 have gr:Same F (upd F a u):=fun b w e=>by rw [qr (qx e hF)]; exact e
 have sb:Same (upd F a u) H:=fun b w e=>by
  by_cases q:b=a
  ·subst q; rw [qm] at e; cases e; exact hu
  ·rw [qr q] at e; exact rp.sub b w e
 refine ⟨upd F a u,⟨sb,rp.len,fun i d hi e=>?_,fun i d hi e=>?_,rp.opn,rp.dis⟩,gr,?_,fun b hb=>?_⟩
 ·obtain ⟨v,h1,h2⟩:=rp.val i d hi e
  exact ⟨v,h1,h2.mono gr⟩
 ·obtain ⟨c,h1,h2,h3⟩:=rp.ow i d hi e
  refine ⟨c,h1,?_,h3.grow gr fun _ q=>q⟩
  have nc:c≠a:=fun q=>by subst q; exact hA c ⟨i,hi,h1⟩ h0
  rw [qr nc]; exact h2
 ·cases d with
  | lst ds=>obtain ⟨xs,e,t⟩:=o; rw [hu] at e; cases e; exact .lst (.inl (.inl qm)) (t.mono gr)
  | dct ds=>obtain ⟨xs,e,t⟩:=o; rw [hu] at e; cases e; exact .dct qm (t.mono gr)
  | ins C fs=>obtain ⟨dx,xs,e,t⟩:=o; rw [hu] at e; cases e; exact .ins qm (t.mono gr)
  | at_ b ds=>obtain ⟨eb,xs,e,t⟩:=o; rw [hu] at e; cases e; subst eb; exact .at_ (.inl (.inl qm)) (t.mono gr)
  | _=>exact o.elim
 ·by_cases q:b=a
  ·exact .inr (by rw [q]; exact h0)
  ·rw [qr q] at hb; exact .inl hb
theorem Po.toSh {C:Ct} {own:List Nat} {m:Mo} {σ:St} {F H:Hp} {ρ0:Sl} {r:Out (D×Sl)} {Q:VK} (rp:Rep C.K own F H σ ρ0) (hm:m≠.any) (h:Po C own .sh σ F H r Q):Po C own m σ F H r Q:=by
 cases r with
 | ok p=>
  intro v F' H' rp' c mo
  cases m with
  | sh=>exact h v F' H' rp' c mo
  | fr=>
   obtain ⟨F2,rp2,gr,is,nw⟩:=ZU rp' (fun b z=>(rp.OA_there z).1) mo
   refine h v F2 H' rp2 ⟨c.keep,c.stay,c.grow.trans gr,fun b hb=>?_⟩ is
   rcases nw b hb with z | z
   ·exact c.new b z
   ·exact .inr (.inl z)
  | any=>exact absurd rfl hm
 | exc x=>exact h
 | bad=>exact h.elim
section
variable {X:Cx} {C:Ct} {own:List Nat} {a b e:Expr} {f fa fb:Sl->Out (D×Sl)} {m ma mb:Mo} {pos:Pos}
theorem vg (h:PE X e (tE C own m f)) (hm:m≠.any):PE X e (tE C own .sh f):=jd h fun _ _ _ ⟨F,ρ,rp,p⟩=>⟨F,ρ,rp,p.toSh rp hm⟩
noncomputable def qg (i:Nat):Sl->Out (D×Sl):=fun ρ=>match ρ[i]? with
 | some (some d)=>.ok (d,ρ)
 | _=>.bad
noncomputable def dC (d:D):Sl->Out (D×Sl):=fun ρ=>.ok (d,ρ)
theorem qdi {i:Nat} {x:Str} (hN:X.N[i]?=some x) (hv:Vis X.env.scope x) (ho:i∉own) (hd:(x == ("__debug__":Str))=false:=by decide) (hcd:(x == ("__classdict__":Str))=false:=by decide):PE X (.Name x pos) (tE C own .sh (qg i)):=by
 refine jd (vm hN hv hd hcd) fun σ H Q ⟨F,ρ,rp,h⟩=>?_
 unfold qg at h
 cases e:ρ[i]? with
 | none=>rw [e] at h; exact h.elim
 | some o=>
  cases o with
  | none=>rw [e] at h; exact h.elim
  | some d=>
   rw [e] at h
   obtain ⟨v,h1,h2⟩:=rp.val i d ho e
   exact ⟨v,h1,h v F H rp .refl h2⟩
theorem gK {i:Nat} {x:Str} (hN:X.N[i]?=some x) (hv:Vis X.env.scope x) (ho:i∈own) (hd:(x == ("__debug__":Str))=false:=by decide) (hcd:(x == ("__classdict__":Str))=false:=by decide):PE X (.Name x pos) (tE C own .any (qg i)):=by
 refine jd (vm hN hv hd hcd) fun σ H Q ⟨F,ρ,rp,h⟩=>?_
 unfold qg at h
 cases e:ρ[i]? with
 | none=>rw [e] at h; exact h.elim
 | some o=>
  cases o with
  | none=>rw [e] at h; exact h.elim
  | some d=>
   rw [e] at h
   obtain ⟨a,h1,h2,h3⟩:=rp.ow i d ho e
   exact ⟨_,h1,h _ F H rp .refl (.inr ⟨a,rfl,h3⟩)⟩
theorem qdj {v:V} {d:D} (h:PE X e (tC v)) (i:∀ F,Is C.K F v d):PE X e (tE C own .sh (dC d)):=jd h fun σ H Q ⟨F,ρ,rp,h⟩=>h v F H rp .refl (i F)
theorem qA {i j pos}:PE X (.Constant (.int i) j pos) (tE C own .sh (dC (.int i))):=qdj qcR fun _=>.int i
theorem xI {i j pos}:PE X (.Constant (.bool i) j pos) (tE C own .sh (dC (.bl i))):=qdj qeI fun _=>.bl i
theorem xJ {j pos}:PE X (.Constant .none j pos) (tE C own .sh (dC .non)):=qdj qcS fun _=>.non
theorem kS {x j pos} (h:fE x<=sizeLine:=by decide):PE X (.Constant (.str x) j pos) (tE C own .sh (dC (.str x))):=qdj qar fun _=>.str h
theorem qby {x:Str} {v:V} {d:D} {u:Value} (hg:Gl X x) (hm:X.mg x=some u) (r:RelV v u) (i:∀ F,Is C.K F v d) (hd:(x == ("__debug__":Str))=false:=by decide):PE X (.Name x pos) (tE C own .sh (dC d)):=qdj (qbe hg hm r hd) i
noncomputable def gL (g:Int->Int->Out D):D->D->Out D
 | .int i,.int j=>g i j
 | _,_=>.bad
theorem TopIs.int {K:Frag} {F H:Hp} {v:V} {i:Int} (h:TopIs K F H v (.int i)):v=.int i:=by
 rcases h with h | ⟨a,_,h⟩
 ·cases h; rfl
 ·exact h.elim
theorem TopIs.str {K:Frag} {F H:Hp} {v:V} {x:Str} (h:TopIs K F H v (.str x)):v=.str x/\x.length<=sizeLine:=by
 rcases h with h | ⟨a,_,h⟩
 ·cases h; exact ⟨rfl,by assumption⟩
 ·exact h.elim
theorem TopIs.bl {K:Frag} {F H:Hp} {v:V} {x:Bool} (h:TopIs K F H v (.bl x)):v=.bl x:=by
 rcases h with h | ⟨a,_,h⟩
 ·cases h; rfl
 ·exact h.elim
theorem TopIs.non {K:Frag} {F H:Hp} {v:V} (h:TopIs K F H v .non):v=.non:=by
 rcases h with h | ⟨a,_,h⟩
 ·cases h; rfl
 ·exact h.elim
theorem TopIs.raw {K:Frag} {F H:Hp} {v u:V} (h:TopIs K F H v (.raw u)):v=u:=by
 rcases h with h | ⟨a,_,h⟩
 ·cases h; rfl
 ·exact h.elim
theorem TopIs.lst {K:Frag} {F H:Hp} {v:V} {ds:List D} (s:Same F H) (h:TopIs K F H v (.lst ds)):∃ a xs,v=.ref a/\SqL K H a xs/\IsL K F xs ds:=by
 rcases h with h | ⟨a,e,h⟩
 ·cases h with
  | lst h t=>exact ⟨_,_,rfl,s.seq h,t⟩
 ·obtain ⟨xs,e2,t⟩:=h
  exact ⟨a,xs,e,.inl (.inl e2),t⟩
theorem TopIs.tup {K:Frag} {F H:Hp} {v:V} {ds:List D} (s:Same F H) (h:TopIs K F H v (.tup ds)):∃ a xs,v=.ref a/\SqT K H a xs/\IsL K F xs ds:=by
 rcases h with h | ⟨a,e,h⟩
 ·cases h with
  | tup h t=>exact ⟨_,_,rfl,qD s h,t⟩
 ·exact h.elim
theorem TopIs.dct {K:Frag} {F H:Hp} {v:V} {ds:List (Key×D)} (s:Same F H) (h:TopIs K F H v (.dct ds)):∃ a kv,v=.ref a/\H a=some (.dK kv)/\IsK K F kv ds:=by
 rcases h with h | ⟨a,e,h⟩
 ·cases h with
  | dct h t=>exact ⟨_,_,rfl,s _ _ h,t⟩
 ·obtain ⟨xs,e2,t⟩:=h
  exact ⟨a,xs,e,e2,t⟩
theorem Yg {fn:Value->Value->Sem Value} {P:Int->Int->Prop} [∀ i j,Decidable (P i j)] {g:Int->Int->V} {gd:Int->Int->D} (ho:OpR X fn (rI P g)) (hg:∀ F i j,Is C.K F (g i j) (gd i j)) :
  OpD X C .sh fn (gL fun i j=>if P i j then .ok (gd i j) else .bad):=by
 intro pins s σ H x y v u Q I rx ry h
 obtain ⟨F,dx,dy,sb,tx,ty,po⟩:=h
 cases dx <;> try exact po.elim
 cases dy <;> try exact po.elim
 rename_i i j
 have po:PoV C .sh F H (if P i j then .ok (gd i j) else .bad) Q:=po
 obtain rfl:=tx.int
 obtain rfl:=ty.int
 by_cases q:P i j
 ·rw [if_pos q] at po
  exact ho pins s σ H _ _ v u Q I rx ry ⟨i,j,rfl,rfl,q,po (g i j) F H sb .refl (hg F i j)⟩
 ·rw [if_neg q] at po; exact po.elim
theorem Yh {fn:Value->Value->Sem Value} {g:Int->Int->V} {gd:Int->Int->D} (ho:OpR X fn (rI0 g)) (hg:∀ F i j,Is C.K F (g i j) (gd i j)):OpD X C .sh fn (gL fun i j=>.ok (gd i j)):=by
 intro pins s σ H x y v u Q I rx ry h
 obtain ⟨F,dx,dy,sb,tx,ty,po⟩:=h
 cases dx <;> try exact po.elim
 cases dy <;> try exact po.elim
 rename_i i j
 obtain rfl:=tx.int
 obtain rfl:=ty.int
 exact ho pins s σ H _ _ v u Q I rx ry ⟨i,j,rfl,rfl,po (g i j) F H sb .refl (hg F i j)⟩
noncomputable def VQ:D->D->Out D:=gL fun i j=>.ok (.int (i - j))
theorem xK:OpD X C .sh (binaryOp .Sub) VQ:=Yh qc3 fun _ _ _=>.int _
instance:∀ i j,Decidable (CMul i j):=fun i j=>inferInstanceAs (Decidable (_\/_))
instance:∀ i j,Decidable (qgb i j):=fun i j=>inferInstanceAs (Decidable (_/\_))
noncomputable def qcE:D->D->Out D:=gL fun i j=>if CMul i j then .ok (.int (i * j)) else .bad
theorem Yi:OpD X C .sh (binaryOp .Mult) qcE:=Yg qc4 fun _ _ _=>.int _
noncomputable def Yj:D->D->Out D:=gL fun i j=>if 0 < j then .ok (.int (i % j)) else .bad
theorem gf:OpD X C .sh (binaryOp .Mod) Yj:=Yg qc5 fun _ _ _=>.int _
noncomputable def vh (x y:Str):Bool:=decide (x.cps.toList < y.cps.toList)
noncomputable def ltD:D->D->Out D
 | .int i,.int j=>.ok (.bl (decide (i < j)))
 | .str x,.str y=>.ok (.bl (vh x y))
 | _,_=>.bad
theorem qdk:OpD X C .sh (compareOp .Lt) ltD:=by
 intro pins s σ H x y v u Q I rx ry h
 obtain ⟨F,dx,dy,sb,tx,ty,po⟩:=h
 cases dx <;> try exact po.elim
 ·cases dy <;> try exact po.elim
  obtain rfl:=tx.int
  obtain rfl:=ty.int
  exact qeV pins s σ H _ _ v u Q I rx ry ⟨_,_,rfl,rfl,po _ F H sb .refl (.bl _)⟩
 ·cases dy <;> try exact po.elim
  obtain ⟨rfl,_⟩:=tx.str
  obtain ⟨rfl,_⟩:=ty.str
  exact UI pins s σ H _ _ v u Q I rx ry ⟨_,_,rfl,rfl,po _ F H sb .refl (.bl _)⟩
end
noncomputable def eqS:D->D->Option Bool
 | .non,.non=>some true
 | .non,.bl _=>some false
 | .non,.int _=>some false
 | .non,.str _=>some false
 | .non,.tup _=>some false
 | .non,.lst _=>some false
 | .bl _,.non=>some false
 | .bl a,.bl b=>some (a == b)
 | .bl a,.int b=>some ((if a then 1 else 0) == b)
 | .bl _,.str _=>some false
 | .bl _,.tup _=>some false
 | .bl _,.lst _=>some false
 | .int _,.non=>some false
 | .int a,.bl b=>some (a == (if b then 1 else 0))
 | .int a,.int b=>some (a == b)
 | .int _,.str _=>some false
 | .int _,.tup _=>some false
 | .int _,.lst _=>some false
 | .str _,.non=>some false
 | .str _,.bl _=>some false
 | .str _,.int _=>some false
 | .str a,.str b=>some (a == b)
 | .str _,.tup _=>some false
 | .str _,.lst _=>some false
 | .tup _,.non=>some false
 | .tup _,.bl _=>some false
 | .tup _,.int _=>some false
 | .tup _,.str _=>some false
 | .tup _,.lst _=>some false
 | .lst _,.non=>some false
 | .lst _,.bl _=>some false
 | .lst _,.int _=>some false
 | .lst _,.str _=>some false
 | .lst _,.tup _=>some false
 | _,_=>none
noncomputable def wq (f:D->D->Option Bool):List D->List D->Option Bool
 | x::xs,y::ys=>(f x y).bind fun a=>(wq f xs ys).bind fun b=>some (a&&b)
 | _,_=>some true
noncomputable def eqN:Nat->D->D->Option Bool
 | n+1,.tup xs,.tup ys=>(wq (eqN n) xs ys).map fun b=>b&&xs.length == ys.length
 | n+1,.lst xs,.lst ys=>if xs.length=ys.length then wq (eqN n) xs ys else some false
 | _,a,b=>eqS a b
theorem VR {n:Nat} {a b:D} (h1:∀ xs ys,a=.tup xs->b≠.tup ys) (h2:∀ xs ys,a=.lst xs->b≠.lst ys):eqN n a b=eqS a b:=by
 cases n with
 | zero=>rfl
 | succ n=>
  cases a with
  | tup xs=>cases b with
   | tup ys=>exact absurd rfl (h1 xs ys rfl)
   | _=>rfl
  | lst xs=>cases b with
   | lst ys=>exact absurd rfl (h2 xs ys rfl)
   | _=>rfl
  | _=>rfl
noncomputable def itE (f:D->D->Option Bool) (xs ys:List D) (j:Nat):Bool:=((xs[j]?).bind fun x=>(ys[j]?).bind fun y=>f x y).getD false
theorem vL {f:D->D->Option Bool}:∀ {xs ys:List D} {b:Bool},wq f xs ys=some b->b=(bg (min xs.length ys.length)).all (itE f xs ys)
 | [],ys,b,h=>by simp [wq] at h ⊢; exact h
 | x::xs,[],b,h=>by simp [wq] at h ⊢; exact h
 | x::xs,y::ys,b,h=>by
  unfold wq at h
  cases e:f x y with
  | none=>rw [e] at h; simp at h
  | some a=>
   cases e2:wq f xs ys with
   | none=>rw [e,e2] at h; simp at h
   | some c=>
    rw [e,e2] at h
    have h:(a&&c)=b:=by simpa using h
    have ih:=vL e2
    have hm:min (x::xs).length (y::ys).length=min xs.length ys.length+1:=by simp only [ae]; omega
    rw [hm,List.range_succ_eq_map,dH,List.all_map]
    have e0:itE f (x::xs) (y::ys) 0=a:=by simp [itE,e]
    have e1:(itE f (x::xs) (y::ys)) ∘ Nat.succ=itE f xs ys:=by
     funext j
     simp [itE]
    rw [e0,e1,<-ih]
    exact h.symm
theorem Yk {f:D->D->Option Bool}:∀ {xs ys:List D} {b:Bool},wq f xs ys=some b->∀ (j:Nat) (x y:D),xs[j]?=some x->ys[j]?=some y->f x y=some (itE f xs ys j)
 | [],ys,b,_,j,x,y,hx,_=>by simp at hx
 | x::xs,[],b,_,j,_,y,_,hy=>by simp at hy
 | x::xs,y::ys,b,h,0,x',y',hx,hy=>by
  simp at hx hy
  subst hx hy
  unfold wq at h
  cases e:f x y with
  | none=>rw [e] at h; simp at h
  | some a=>simp [itE,e]
 | x::xs,y::ys,b,h,j+1,x',y',hx,hy=>by
  unfold wq at h
  cases e:f x y with
  | none=>rw [e] at h; simp at h
  | some a=>
   cases e2:wq f xs ys with
   | none=>rw [e,e2] at h; simp at h
   | some c=>
    have q:=Yk e2 j x' y' (by simpa using hx) (by simpa using hy)
    rw [q]
    simp [itE]
section
variable {X:Cx} {pins:List (Addr×Obj)} {σ:St} {F H:Hp} {s:Shared}
theorem Yl (I:Inv X pins σ H s) (sb:Same F H):∀ (n:Nat) {v:V} {d e:D} {b:Bool},Is X.K F v d->Is X.K F v e->eqN n d e=some b->b=true:=by
 intro n
 induction n with
 | zero=>
  intro v d e b h1 h2 h
  cases h1 <;> cases h2 <;> simp [eqN,eqS] at h <;> try exact h.symm
  all_goals first
   | exact h
   | (rename_i p1 _ _ _ p2 _; obtain ⟨_,_,q1,_⟩:=I.list (sb.seq (by assumption)); obtain ⟨_,_,q2,_⟩:=I.tuple (qD sb (by assumption)); exact absurd rfl (cw q1.isList q2))
   | (rename_i p1 _ _ _ p2 _; obtain ⟨_,_,q1,_⟩:=I.list (sb.seq (by assumption)); obtain ⟨_,_,q2,_⟩:=I.tuple (qD sb (by assumption)); exact absurd rfl (cw q1.isList q2).symm)
   | skip
 | succ n ih=>
  have lists:∀ {xs:List V} {ds es:List D} {b:Bool},IsL X.K F xs ds->IsL X.K F xs es->wq (eqN n) ds es=some b->b=true:=by
   intro xs
   induction xs with
   | nil=>intro ds es b h1 h2 h; cases h1; cases h2; simp [wq] at h; exact h
   | cons x xs ihx=>
    intro ds es b h1 h2 h
    cases h1 with
    | cons a1 t1=>
     cases h2 with
     | cons a2 t2=>
      rename_i d ds e es
      unfold wq at h
      cases q:eqN n d e with
      | none=>rw [q] at h; simp at h
      | some a=>
       cases q2:wq (eqN n) ds es with
       | none=>rw [q,q2] at h; simp at h
       | some c=>
        rw [q,q2] at h
        rw [ih a1 a2 q,ihx t1 t2 q2] at h
        simpa using h.symm
  intro v d e b h1 h2 h
  cases h1 with
  | tup p1 t1=>
   cases h2 with
   | tup p2 t2=>
    have e:=I.tuple_inj (qD sb p1) (qD sb p2)
    subst e
    simp only [eqN] at h
    rename_i xs ds es
    cases q:wq (eqN n) ds es with
    | none=>rw [q] at h; simp at h
    | some c=>
     rw [q] at h
     have hl:ds.length=es.length:=by rw [<-t1.length,<-t2.length]
     have hb:(ds.length == es.length)=true:=by simp [hl]
     rw [lists t1 t2 q] at h
     simpa [hb] using h.symm
   | lst p2 t2=>
    obtain ⟨_,_,q1,_⟩:=I.list (sb.seq p2)
    obtain ⟨_,_,q2,_⟩:=I.tuple (qD sb p1)
    exact absurd rfl (cw q1.isList q2)
   | _=>simp [eqN,eqS] at h
  | lst p1 t1=>
   cases h2 with
   | lst p2 t2=>
    have e:=I.list_inj (sb.seq p1) (sb.seq p2)
    subst e
    simp only [eqN] at h
    have hl:=t1.length.symm.trans t2.length
    rw [if_pos hl] at h
    exact lists t1 t2 h
   | tup p2 t2=>
    obtain ⟨_,_,q1,_⟩:=I.list (sb.seq p1)
    obtain ⟨_,_,q2,_⟩:=I.tuple (qD sb p2)
    exact absurd rfl (cw q1.isList q2)
   | _=>simp [eqN,eqS] at h
  | _=>cases h2 <;> simp [eqN,eqS] at h <;> first | exact h.symm | exact h | skip
end
open PySem.SeqAt
section
variable {X:Cx} {pins:List (Addr×Obj)} {σ:St} {F H:Hp} {s:Shared}
theorem Vals.getE {xs:List V} {us:List Value} (r:Vals xs us) {j:Nat} (h:j < us.length):∃ x,xs[j]?=some x/\RelV x us[j]:=by
 have hl:=r.length
 have hj:j < xs.length:=by omega
 obtain ⟨u,e1,e2⟩:=Vals.get (i:=j) (x:=xs[j]) r (by simp [hj])
 refine ⟨xs[j],by simp [hj],?_⟩
 rw [aJ h] at e1
 cases e1
 exact e2
theorem wY {A:Around} {n:Nat} {xs ys:List V} {ds es:List D} {us ws:List Value} {b:Bool} (ih:∀ {v w:V} {d e:D} {u t:Value} {b:Bool},Is X.K F v d->Is X.K F w e->RelV v u->RelV w t->eqN n d e=some b->EqAt A s u t b)
  (r1:Vals xs us) (r2:Vals ys ws) (i1:IsL X.K F xs ds) (i2:IsL X.K F ys es) (h:wq (eqN n) ds es=some b) :
  ∀ j (h1:j < us.toArray.size) (h2:j < ws.toArray.size),EqAt A s us.toArray[j] ws.toArray[j] (itE (eqN n) ds es j):=by
 intro j h1 h2
 have h1':j < us.length:=by simpa using h1
 have h2':j < ws.length:=by simpa using h2
 obtain ⟨x,ex,rx⟩:=Vals.getE r1 h1'
 obtain ⟨y,ey,ry⟩:=Vals.getE r2 h2'
 obtain ⟨d,ed,idd⟩:=i1.get ex
 obtain ⟨e,ee,ie⟩:=i2.get ey
 have q:=Yk h j d e ed ee
 simpa using ih idd ie rx ry q
theorem VS {A:Around} {n:Nat} {a c:Addr} {xs ys:List V} {ds es:List D} {b:Bool} (I:Inv X pins σ H s) (ih:∀ {v w:V} {d e:D} {u t:Value} {b:Bool},Is X.K F v d->Is X.K F w e->RelV v u->RelV w t->eqN n d e=some b->EqAt A.in1 s u t b)
  (p1:SqT X.K H a xs) (p2:SqT X.K H c ys) (i1:IsL X.K F xs ds) (i2:IsL X.K F ys es) (h:eqN (n+1) (.tup ds) (.tup es)=some b) (hu:A.units < cLine):RcAt A s (.ref a) (.ref c) b:=by
 obtain ⟨us,r1,t1,_⟩:=I.tuple p1
 obtain ⟨ws,r2,t2,_⟩:=I.tuple p2
 simp only [eqN] at h
 cases q:wq (eqN n) ds es with
 | none=>rw [q] at h; simp at h
 | some k=>
  rw [q] at h
  have l1:us.toArray.size=ds.length:=by rw [ak,<-r1.length,i1.length]
  have l2:ws.toArray.size=es.length:=by rw [ak,<-r2.length,i2.length]
  have z:=RcAt.tuples (A:=A) t1 t2 hu (wY (A:=A.in1) ih r1 r2 i1 i2 q)
  rw [l1,l2,<-vL q] at z
  have e:b=(k&&ds.length == es.length):=by simpa using h.symm
  rw [e]; exact z
theorem VT {A:Around} {n:Nat} {a c:Addr} {xs ys:List V} {ds es:List D} {b:Bool} (I:Inv X pins σ H s) (ih:∀ {v w:V} {d e:D} {u t:Value} {b:Bool},Is X.K F v d->Is X.K F w e->RelV v u->RelV w t->eqN n d e=some b->EqAt A.in1 s u t b)
  (p1:SqL X.K H a xs) (p2:SqL X.K H c ys) (i1:IsL X.K F xs ds) (i2:IsL X.K F ys es) (h:eqN (n+1) (.lst ds) (.lst es)=some b) (hu:A.units < cLine):RcAt A s (.ref a) (.ref c) b:=by
 obtain ⟨us,r1,t1,_⟩:=I.list p1
 obtain ⟨ws,r2,t2,_⟩:=I.list p2
 have l1:us.toArray.size=ds.length:=by rw [ak,<-r1.length,i1.length]
 have l2:ws.toArray.size=es.length:=by rw [ak,<-r2.length,i2.length]
 simp only [eqN] at h
 by_cases hl:ds.length=es.length
 ·rw [if_pos hl] at h
  have z:=RcAt.lists (A:=A) t1.isList t2.isList (by omega) hu (wY (A:=A.in1) ih r1 r2 i1 i2 h)
  have e:=vL h
  rw [l1] at z
  rw [e,show min ds.length es.length=ds.length by omega]
  exact z
 ·rw [if_neg hl] at h
  cases h
  exact RcAt.lists_lengths t1.isList t2.isList (bne_iff_ne.mpr (by rw [l1,l2]; exact hl)) hu
theorem Ym (I:Inv X pins σ H s) (sb:Same F H):∀ (n:Nat) {A:Around} {v w:V} {d e:D} {u t:Value} {b:Bool},A.units+n < cLine->Is X.K F v d->Is X.K F w e->RelV v u->RelV w t->eqN n d e=some b->EqAt A s u t b:=by
 intro n
 induction n with
 | zero=>
  intro A v w d e u t b hu h1 h2 rx ry h
  have hu:A.units < cLine:=by omega
  have h:eqS d e=some b:=h
  cases h1 with
  | non=>cases rx; cases h2 with
   | non=>cases ry; cases h; exact EqAt.same _
   | bl=>cases ry; cases h; exact EqAt.none_bool _
   | int=>obtain ⟨_,rfl⟩:=ry; cases h; exact EqAt.none_int _ _
   | str=>obtain ⟨_,rfl⟩:=ry; cases h; exact EqAt.none_str _ _
   | tup p _=>cases ry; cases h; obtain ⟨_,_,q,_⟩:=I.tuple (qD sb p); exact EqAt.none_tuple q hu
   | lst p _=>cases ry; cases h; obtain ⟨_,_,q,_⟩:=I.list (sb.seq p); exact EqAt.none_list q.isList hu
   | dct=>cases h
   | raw=>cases h
   | xcp=>cases h
   | ins=>cases h
   | at_=>cases h
  | bl=>cases rx; cases h2 with
   | non=>cases ry; cases h; exact EqAt.bool_none _
   | bl=>cases ry; cases h; exact EqAt.bool_bool _ _
   | int=>obtain ⟨_,rfl⟩:=ry; cases h; exact EqAt.bool_int _ _ _
   | str=>obtain ⟨_,rfl⟩:=ry; cases h; exact EqAt.bool_str _ _ _
   | tup p _=>cases ry; cases h; obtain ⟨_,_,q,_⟩:=I.tuple (qD sb p); exact EqAt.bool_tuple _ q hu
   | lst p _=>cases ry; cases h; obtain ⟨_,_,q,_⟩:=I.list (sb.seq p); exact EqAt.bool_list _ q.isList hu
   | dct=>cases h
   | raw=>cases h
   | xcp=>cases h
   | ins=>cases h
   | at_=>cases h
  | int=>obtain ⟨_,rfl⟩:=rx; cases h2 with
   | non=>cases ry; cases h; exact EqAt.int_none _ _
   | bl=>cases ry; cases h; exact EqAt.int_bool _ _ _
   | int=>obtain ⟨_,rfl⟩:=ry; cases h; exact EqAt.int_int _ _ _ _
   | str=>obtain ⟨_,rfl⟩:=ry; cases h; exact EqAt.int_str _ _ _ _
   | tup p _=>cases ry; cases h; obtain ⟨_,_,q,_⟩:=I.tuple (qD sb p); exact EqAt.int_tuple _ _ q hu
   | lst p _=>cases ry; cases h; obtain ⟨_,_,q,_⟩:=I.list (sb.seq p); exact EqAt.int_list _ _ q.isList hu
   | dct=>cases h
   | raw=>cases h
   | xcp=>cases h
   | ins=>cases h
   | at_=>cases h
  | str=>obtain ⟨_,rfl⟩:=rx; cases h2 with
   | non=>cases ry; cases h; exact EqAt.str_none _ _
   | bl=>cases ry; cases h; exact EqAt.str_bool _ _ _
   | int=>obtain ⟨_,rfl⟩:=ry; cases h; exact EqAt.str_int _ _ _ _
   | str=>obtain ⟨_,rfl⟩:=ry; cases h; exact EqAt.str_str _ _ _ _
   | tup p _=>cases ry; cases h; obtain ⟨_,_,q,_⟩:=I.tuple (qD sb p); exact EqAt.str_tuple _ _ q hu
   | lst p _=>cases ry; cases h; obtain ⟨_,_,q,_⟩:=I.list (sb.seq p); exact EqAt.str_list _ _ q.isList hu
   | dct=>cases h
   | raw=>cases h
   | xcp=>cases h
   | ins=>cases h
   | at_=>cases h
  | tup p0 _=>
   cases rx
   obtain ⟨_,_,q0,_⟩:=I.tuple (qD sb p0)
   cases h2 with
   | non=>cases ry; cases h; exact EqAt.tuple_none q0 hu
   | bl=>cases ry; cases h; exact EqAt.tuple_bool _ q0 hu
   | int=>obtain ⟨_,rfl⟩:=ry; cases h; exact EqAt.tuple_int _ _ q0 hu
   | str=>obtain ⟨_,rfl⟩:=ry; cases h; exact EqAt.tuple_str _ _ q0 hu
   | tup p _=>cases h
   | lst p _=>cases ry; cases h; obtain ⟨_,_,q,_⟩:=I.list (sb.seq p); exact EqAt.tuple_list q0 q.isList hu
   | dct=>cases h
   | raw=>cases h
   | xcp=>cases h
   | ins=>cases h
   | at_=>cases h
  | lst p0 _=>
   cases rx
   obtain ⟨_,_,q0,_⟩:=I.list (sb.seq p0)
   cases h2 with
   | non=>cases ry; cases h; exact EqAt.list_none q0.isList hu
   | bl=>cases ry; cases h; exact EqAt.list_bool _ q0.isList hu
   | int=>obtain ⟨_,rfl⟩:=ry; cases h; exact EqAt.list_int _ _ q0.isList hu
   | str=>obtain ⟨_,rfl⟩:=ry; cases h; exact EqAt.list_str _ _ q0.isList hu
   | tup p _=>cases ry; cases h; obtain ⟨_,_,q,_⟩:=I.tuple (qD sb p); exact EqAt.list_tuple q0.isList q hu
   | lst p _=>cases h
   | dct=>cases h
   | raw=>cases h
   | xcp=>cases h
   | ins=>cases h
   | at_=>cases h
  | dct=>cases h2 <;> cases h
  | raw=>cases h2 <;> cases h
  | xcp=>cases h2 <;> cases h
  | ins=>cases h2 <;> cases h
  | at_=>cases h2 <;> cases h
 | succ n ih=>
  intro A v w d e u t b hu h1 h2 rx ry h
  have hu1:A.in1.units+n < cLine:=by show A.units+1+n < cLine; omega
  by_cases both:(∃ xs ys,d=.tup xs/\e=.tup ys)\/(∃ xs ys,d=.lst xs/\e=.lst ys)
  ·rcases both with ⟨ds,es,rfl,rfl⟩ | ⟨ds,es,rfl,rfl⟩
   ·have h1':=h1
    have h2':=h2
    cases h1 with
    | tup p1 t1=>
     cases h2 with
     | tup p2 t2=>
      rename_i a xs c ys
      cases rx
      cases ry
      by_cases ne:a=c
      ·subst ne
       rw [Yl I sb (n+1) h1' h2' h]
       exact EqAt.same _
      ·exact EqAt.of_refs ne (VS I (fun a1 a2 a3 a4 a5=>ih hu1 a1 a2 a3 a4 a5) (qD sb p1) (qD sb p2) t1 t2 h (by omega))
   ·have h1':=h1
    have h2':=h2
    cases h1 with
    | lst p1 t1=>
     cases h2 with
     | lst p2 t2=>
      rename_i a xs c ys
      cases rx
      cases ry
      by_cases ne:a=c
      ·subst ne
       rw [Yl I sb (n+1) h1' h2' h]
       exact EqAt.same _
      ·exact EqAt.of_refs ne (VT I (fun a1 a2 a3 a4 a5=>ih hu1 a1 a2 a3 a4 a5) (sb.seq p1) (sb.seq p2) t1 t2 h (by omega))
  ·have e1:eqN (n+1) d e=eqS d e:=VR (fun xs ys a1 a2=>both (.inl ⟨xs,ys,a1,a2⟩)) (fun xs ys a1 a2=>both (.inr ⟨xs,ys,a1,a2⟩))
   have e2:eqN n d e=eqS d e:=VR (fun xs ys a1 a2=>both (.inl ⟨xs,ys,a1,a2⟩)) (fun xs ys a1 a2=>both (.inr ⟨xs,ys,a1,a2⟩))
   exact ih (by omega) h1 h2 rx ry (by rw [e2,<-e1]; exact h)
end
end L2.D2
namespace L2.D2
open PySem PySem.Spec PyProof.Rows
open PySem.SeqAt
variable {X:Cx} {A:Around} {n:Nat} {b:Bool}
section
variable {pins:List (Addr×Obj)} {σ:St} {F H:Hp} {s:Shared}
theorem ZV {a c:Addr} {xs ys:List V} {ds es:List D} (I:Inv X pins σ H s) (ih:∀ {v w:V} {d e:D} {u t:Value} {b:Bool},Is X.K F v d->Is X.K F w e->RelV v u->RelV w t->eqN n d e=some b->EqAt A.in1 s u t b)
  (p1:SqT X.K H a xs) (p2:SqT X.K H c ys) (i1:IsL X.K F xs ds) (i2:IsL X.K F ys es) (h:eqN (n+1) (.tup ds) (.tup es)=some b) (hu:A.units < cLine):RcNeAt A s (.ref a) (.ref c) (!b):=by
 obtain ⟨us,r1,t1,_⟩:=I.tuple p1
 obtain ⟨ws,r2,t2,_⟩:=I.tuple p2
 simp only [eqN] at h
 cases q:wq (eqN n) ds es with
 | none=>rw [q] at h; simp at h
 | some k=>
  rw [q] at h
  have l1:us.toArray.size=ds.length:=by rw [ak,<-r1.length,i1.length]
  have l2:ws.toArray.size=es.length:=by rw [ak,<-r2.length,i2.length]
  have z:=RcNeAt.tuples (A:=A) t1 t2 hu (wY (A:=A.in1) ih r1 r2 i1 i2 q)
  rw [l1,l2,<-vL q] at z
  have e:b=(k&&ds.length == es.length):=by simpa using h.symm
  rw [e]; exact z
theorem ZW {a c:Addr} {xs ys:List V} {ds es:List D} (I:Inv X pins σ H s) (ih:∀ {v w:V} {d e:D} {u t:Value} {b:Bool},Is X.K F v d->Is X.K F w e->RelV v u->RelV w t->eqN n d e=some b->EqAt A.in1 s u t b)
  (p1:SqL X.K H a xs) (p2:SqL X.K H c ys) (i1:IsL X.K F xs ds) (i2:IsL X.K F ys es) (h:eqN (n+1) (.lst ds) (.lst es)=some b) (hu:A.units < cLine):RcNeAt A s (.ref a) (.ref c) (!b):=by
 obtain ⟨us,r1,t1,_⟩:=I.list p1
 obtain ⟨ws,r2,t2,_⟩:=I.list p2
 have l1:us.toArray.size=ds.length:=by rw [ak,<-r1.length,i1.length]
 have l2:ws.toArray.size=es.length:=by rw [ak,<-r2.length,i2.length]
 simp only [eqN] at h
 by_cases hl:ds.length=es.length
 ·rw [if_pos hl] at h
  have z:=RcNeAt.lists (A:=A) t1.isList t2.isList (by omega) hu (wY (A:=A.in1) ih r1 r2 i1 i2 h)
  have e:=vL h
  rw [l1] at z
  rw [e,show min ds.length es.length=ds.length by omega]
  exact z
 ·rw [if_neg hl] at h
  cases h
  exact RcNeAt.lists_lengths t1.isList t2.isList (bne_iff_ne.mpr (by rw [l1,l2]; exact hl)) hu
theorem qdl (I:Inv X pins σ H s) (sb:Same F H) {v w:V} {d e:D} {u t:Value} (hu':A.units+n+1 < cLine) (t1:TopIs X.K F H v d) (t2:TopIs X.K F H w e) (rx:RelV v u) (ry:RelV w t) (h:eqN (n+1) d e=some b):RcAt A s u t b:=by
 have hu:A.units < cLine:=by omega
 have ih:∀ {v w:V} {d e:D} {u t:Value} {b:Bool},Is X.K F v d->Is X.K F w e->RelV v u->RelV w t->eqN n d e=some b->EqAt A.in1 s u t b:=fun a1 a2 a3 a4 a5=>Ym I sb n (by show A.units+1+n < cLine; omega) a1 a2 a3 a4 a5
 cases d with
 | non  =>
  obtain rfl:=t1.non; cases rx
  cases e with
  | non  => obtain rfl:=t2.non; cases ry; cases h; exact RcAt.none_none 
  | bl y=>obtain rfl:=t2.bl; cases ry; cases h; exact RcAt.none_bool _
  | int y=>obtain rfl:=t2.int; obtain ⟨_,rfl⟩:=ry; cases h; exact RcAt.none_int _ _
  | str y=>obtain ⟨rfl,_⟩:=t2.str; obtain ⟨_,rfl⟩:=ry; cases h; exact RcAt.none_str _ _
  | tup y=>obtain ⟨c,ys,rfl,p2,i2⟩:=t2.tup sb; cases ry; obtain ⟨_,_,q2,_⟩:=I.tuple p2; cases h; exact RcAt.none_tuple  q2 hu
  | lst y=>obtain ⟨c,ys,rfl,p2,i2⟩:=t2.lst sb; cases ry; obtain ⟨_,_,q2,_⟩:=I.list p2; cases h; exact RcAt.none_list  q2.isList hu
  | dct y=>cases h
  | raw y=>cases h
  | xcp y=>cases h
  | ins y z=>cases h
  | at_ y z=>cases h
 | bl x=>
  obtain rfl:=t1.bl; cases rx
  cases e with
  | non  => obtain rfl:=t2.non; cases ry; cases h; exact RcAt.bool_none _
  | bl y=>obtain rfl:=t2.bl; cases ry; cases h; exact RcAt.bool_bool _ _
  | int y=>obtain rfl:=t2.int; obtain ⟨_,rfl⟩:=ry; cases h; exact RcAt.bool_int _ _ _
  | str y=>obtain ⟨rfl,_⟩:=t2.str; obtain ⟨_,rfl⟩:=ry; cases h; exact RcAt.bool_str _ _ _
  | tup y=>obtain ⟨c,ys,rfl,p2,i2⟩:=t2.tup sb; cases ry; obtain ⟨_,_,q2,_⟩:=I.tuple p2; cases h; exact RcAt.bool_tuple _ q2 hu
  | lst y=>obtain ⟨c,ys,rfl,p2,i2⟩:=t2.lst sb; cases ry; obtain ⟨_,_,q2,_⟩:=I.list p2; cases h; exact RcAt.bool_list _ q2.isList hu
  | dct y=>cases h
  | raw y=>cases h
  | xcp y=>cases h
  | ins y z=>cases h
  | at_ y z=>cases h
 | int x=>
  obtain rfl:=t1.int; obtain ⟨_,rfl⟩:=rx
  cases e with
  | non  => obtain rfl:=t2.non; cases ry; cases h; exact RcAt.int_none _ _
  | bl y=>obtain rfl:=t2.bl; cases ry; cases h; exact RcAt.int_bool _ _ _
  | int y=>obtain rfl:=t2.int; obtain ⟨_,rfl⟩:=ry; cases h; exact RcAt.int_int _ _ _ _
  | str y=>obtain ⟨rfl,_⟩:=t2.str; obtain ⟨_,rfl⟩:=ry; cases h; exact RcAt.int_str _ _ _ _
  | tup y=>obtain ⟨c,ys,rfl,p2,i2⟩:=t2.tup sb; cases ry; obtain ⟨_,_,q2,_⟩:=I.tuple p2; cases h; exact RcAt.int_tuple _ _ q2 hu
  | lst y=>obtain ⟨c,ys,rfl,p2,i2⟩:=t2.lst sb; cases ry; obtain ⟨_,_,q2,_⟩:=I.list p2; cases h; exact RcAt.int_list _ _ q2.isList hu
  | dct y=>cases h
  | raw y=>cases h
  | xcp y=>cases h
  | ins y z=>cases h
  | at_ y z=>cases h
 | str x=>
  obtain ⟨rfl,_⟩:=t1.str; obtain ⟨_,rfl⟩:=rx
  cases e with
  | non  => obtain rfl:=t2.non; cases ry; cases h; exact RcAt.str_none _ _
  | bl y=>obtain rfl:=t2.bl; cases ry; cases h; exact RcAt.str_bool _ _ _
  | int y=>obtain rfl:=t2.int; obtain ⟨_,rfl⟩:=ry; cases h; exact RcAt.str_int _ _ _ _
  | str y=>obtain ⟨rfl,_⟩:=t2.str; obtain ⟨_,rfl⟩:=ry; cases h; exact RcAt.str_str _ _ _ _
  | tup y=>obtain ⟨c,ys,rfl,p2,i2⟩:=t2.tup sb; cases ry; obtain ⟨_,_,q2,_⟩:=I.tuple p2; cases h; exact RcAt.str_tuple _ _ q2 hu
  | lst y=>obtain ⟨c,ys,rfl,p2,i2⟩:=t2.lst sb; cases ry; obtain ⟨_,_,q2,_⟩:=I.list p2; cases h; exact RcAt.str_list _ _ q2.isList hu
  | dct y=>cases h
  | raw y=>cases h
  | xcp y=>cases h
  | ins y z=>cases h
  | at_ y z=>cases h
 | tup x=>
  obtain ⟨a,xs,rfl,p1,i1⟩:=t1.tup sb; cases rx; obtain ⟨_,_,q1,_⟩:=I.tuple p1
  cases e with
  | non  => obtain rfl:=t2.non; cases ry; cases h; exact RcAt.tuple_none  q1 hu
  | bl y=>obtain rfl:=t2.bl; cases ry; cases h; exact RcAt.tuple_bool _ q1 hu
  | int y=>obtain rfl:=t2.int; obtain ⟨_,rfl⟩:=ry; cases h; exact RcAt.tuple_int _ _ q1 hu
  | str y=>obtain ⟨rfl,_⟩:=t2.str; obtain ⟨_,rfl⟩:=ry; cases h; exact RcAt.tuple_str _ _ q1 hu
  | tup y=>obtain ⟨c,ys,rfl,p2,i2⟩:=t2.tup sb; cases ry; obtain ⟨_,_,q2,_⟩:=I.tuple p2; exact VS I ih p1 p2 i1 i2 h hu
  | lst y=>obtain ⟨c,ys,rfl,p2,i2⟩:=t2.lst sb; cases ry; obtain ⟨_,_,q2,_⟩:=I.list p2; cases h; exact RcAt.tuple_list q1 q2.isList hu
  | dct y=>cases h
  | raw y=>cases h
  | xcp y=>cases h
  | ins y z=>cases h
  | at_ y z=>cases h
 | lst x=>
  obtain ⟨a,xs,rfl,p1,i1⟩:=t1.lst sb; cases rx; obtain ⟨_,_,q1,_⟩:=I.list p1
  cases e with
  | non  => obtain rfl:=t2.non; cases ry; cases h; exact RcAt.list_none  q1.isList hu
  | bl y=>obtain rfl:=t2.bl; cases ry; cases h; exact RcAt.list_bool _ q1.isList hu
  | int y=>obtain rfl:=t2.int; obtain ⟨_,rfl⟩:=ry; cases h; exact RcAt.list_int _ _ q1.isList hu
  | str y=>obtain ⟨rfl,_⟩:=t2.str; obtain ⟨_,rfl⟩:=ry; cases h; exact RcAt.list_str _ _ q1.isList hu
  | tup y=>obtain ⟨c,ys,rfl,p2,i2⟩:=t2.tup sb; cases ry; obtain ⟨_,_,q2,_⟩:=I.tuple p2; cases h; exact RcAt.list_tuple q1.isList q2 hu
  | lst y=>obtain ⟨c,ys,rfl,p2,i2⟩:=t2.lst sb; cases ry; obtain ⟨_,_,q2,_⟩:=I.list p2; exact VT I ih p1 p2 i1 i2 h hu
  | dct y=>cases h
  | raw y=>cases h
  | xcp y=>cases h
  | ins y z=>cases h
  | at_ y z=>cases h
 | dct x=>cases e <;> cases h
 | raw x=>cases e <;> cases h
 | xcp x=>cases e <;> cases h
 | ins x z=>cases e <;> cases h
 | at_ x z=>cases e <;> cases h
theorem qdm (I:Inv X pins σ H s) (sb:Same F H) {v w:V} {d e:D} {u t:Value} (hu':A.units+n+1 < cLine) (t1:TopIs X.K F H v d) (t2:TopIs X.K F H w e) (rx:RelV v u) (ry:RelV w t) (h:eqN (n+1) d e=some b):RcNeAt A s u t (!b):=by
 have hu:A.units < cLine:=by omega
 have ih:∀ {v w:V} {d e:D} {u t:Value} {b:Bool},Is X.K F v d->Is X.K F w e->RelV v u->RelV w t->eqN n d e=some b->EqAt A.in1 s u t b:=fun a1 a2 a3 a4 a5=>Ym I sb n (by show A.units+1+n < cLine; omega) a1 a2 a3 a4 a5
 cases d with
 | non  =>
  obtain rfl:=t1.non; cases rx
  cases e with
  | non  => obtain rfl:=t2.non; cases ry; cases h; exact RcNeAt.none_none 
  | bl y=>obtain rfl:=t2.bl; cases ry; cases h; exact RcNeAt.none_bool _
  | int y=>obtain rfl:=t2.int; obtain ⟨_,rfl⟩:=ry; cases h; exact RcNeAt.none_int _ _
  | str y=>obtain ⟨rfl,_⟩:=t2.str; obtain ⟨_,rfl⟩:=ry; cases h; exact RcNeAt.none_str _ _
  | tup y=>obtain ⟨c,ys,rfl,p2,i2⟩:=t2.tup sb; cases ry; obtain ⟨_,_,q2,_⟩:=I.tuple p2; cases h; exact RcNeAt.none_tuple  q2 hu
  | lst y=>obtain ⟨c,ys,rfl,p2,i2⟩:=t2.lst sb; cases ry; obtain ⟨_,_,q2,_⟩:=I.list p2; cases h; exact RcNeAt.none_list  q2.isList hu
  | dct y=>cases h
  | raw y=>cases h
  | xcp y=>cases h
  | ins y z=>cases h
  | at_ y z=>cases h
 | bl x=>
  obtain rfl:=t1.bl; cases rx
  cases e with
  | non  => obtain rfl:=t2.non; cases ry; cases h; exact RcNeAt.bool_none _
  | bl y=>obtain rfl:=t2.bl; cases ry; cases h; exact RcNeAt.bool_bool _ _
  | int y=>obtain rfl:=t2.int; obtain ⟨_,rfl⟩:=ry; cases h; exact RcNeAt.bool_int _ _ _
  | str y=>obtain ⟨rfl,_⟩:=t2.str; obtain ⟨_,rfl⟩:=ry; cases h; exact RcNeAt.bool_str _ _ _
  | tup y=>obtain ⟨c,ys,rfl,p2,i2⟩:=t2.tup sb; cases ry; obtain ⟨_,_,q2,_⟩:=I.tuple p2; cases h; exact RcNeAt.bool_tuple _ q2 hu
  | lst y=>obtain ⟨c,ys,rfl,p2,i2⟩:=t2.lst sb; cases ry; obtain ⟨_,_,q2,_⟩:=I.list p2; cases h; exact RcNeAt.bool_list _ q2.isList hu
  | dct y=>cases h
  | raw y=>cases h
  | xcp y=>cases h
  | ins y z=>cases h
  | at_ y z=>cases h
 | int x=>
  obtain rfl:=t1.int; obtain ⟨_,rfl⟩:=rx
  cases e with
  | non  => obtain rfl:=t2.non; cases ry; cases h; exact RcNeAt.int_none _ _
  | bl y=>obtain rfl:=t2.bl; cases ry; cases h; exact RcNeAt.int_bool _ _ _
  | int y=>obtain rfl:=t2.int; obtain ⟨_,rfl⟩:=ry; cases h; exact RcNeAt.int_int _ _ _ _
  | str y=>obtain ⟨rfl,_⟩:=t2.str; obtain ⟨_,rfl⟩:=ry; cases h; exact RcNeAt.int_str _ _ _ _
  | tup y=>obtain ⟨c,ys,rfl,p2,i2⟩:=t2.tup sb; cases ry; obtain ⟨_,_,q2,_⟩:=I.tuple p2; cases h; exact RcNeAt.int_tuple _ _ q2 hu
  | lst y=>obtain ⟨c,ys,rfl,p2,i2⟩:=t2.lst sb; cases ry; obtain ⟨_,_,q2,_⟩:=I.list p2; cases h; exact RcNeAt.int_list _ _ q2.isList hu
  | dct y=>cases h
  | raw y=>cases h
  | xcp y=>cases h
  | ins y z=>cases h
  | at_ y z=>cases h
 | str x=>
  obtain ⟨rfl,_⟩:=t1.str; obtain ⟨_,rfl⟩:=rx
  cases e with
  | non  => obtain rfl:=t2.non; cases ry; cases h; exact RcNeAt.str_none _ _
  | bl y=>obtain rfl:=t2.bl; cases ry; cases h; exact RcNeAt.str_bool _ _ _
  | int y=>obtain rfl:=t2.int; obtain ⟨_,rfl⟩:=ry; cases h; exact RcNeAt.str_int _ _ _ _
  | str y=>obtain ⟨rfl,_⟩:=t2.str; obtain ⟨_,rfl⟩:=ry; cases h; exact RcNeAt.str_str _ _ _ _
  | tup y=>obtain ⟨c,ys,rfl,p2,i2⟩:=t2.tup sb; cases ry; obtain ⟨_,_,q2,_⟩:=I.tuple p2; cases h; exact RcNeAt.str_tuple _ _ q2 hu
  | lst y=>obtain ⟨c,ys,rfl,p2,i2⟩:=t2.lst sb; cases ry; obtain ⟨_,_,q2,_⟩:=I.list p2; cases h; exact RcNeAt.str_list _ _ q2.isList hu
  | dct y=>cases h
  | raw y=>cases h
  | xcp y=>cases h
  | ins y z=>cases h
  | at_ y z=>cases h
 | tup x=>
  obtain ⟨a,xs,rfl,p1,i1⟩:=t1.tup sb; cases rx; obtain ⟨_,_,q1,_⟩:=I.tuple p1
  cases e with
  | non  => obtain rfl:=t2.non; cases ry; cases h; exact RcNeAt.tuple_none  q1 hu
  | bl y=>obtain rfl:=t2.bl; cases ry; cases h; exact RcNeAt.tuple_bool _ q1 hu
  | int y=>obtain rfl:=t2.int; obtain ⟨_,rfl⟩:=ry; cases h; exact RcNeAt.tuple_int _ _ q1 hu
  | str y=>obtain ⟨rfl,_⟩:=t2.str; obtain ⟨_,rfl⟩:=ry; cases h; exact RcNeAt.tuple_str _ _ q1 hu
  | tup y=>obtain ⟨c,ys,rfl,p2,i2⟩:=t2.tup sb; cases ry; obtain ⟨_,_,q2,_⟩:=I.tuple p2; exact ZV I ih p1 p2 i1 i2 h hu
  | lst y=>obtain ⟨c,ys,rfl,p2,i2⟩:=t2.lst sb; cases ry; obtain ⟨_,_,q2,_⟩:=I.list p2; cases h; exact RcNeAt.tuple_list q1 q2.isList hu
  | dct y=>cases h
  | raw y=>cases h
  | xcp y=>cases h
  | ins y z=>cases h
  | at_ y z=>cases h
 | lst x=>
  obtain ⟨a,xs,rfl,p1,i1⟩:=t1.lst sb; cases rx; obtain ⟨_,_,q1,_⟩:=I.list p1
  cases e with
  | non  => obtain rfl:=t2.non; cases ry; cases h; exact RcNeAt.list_none  q1.isList hu
  | bl y=>obtain rfl:=t2.bl; cases ry; cases h; exact RcNeAt.list_bool _ q1.isList hu
  | int y=>obtain rfl:=t2.int; obtain ⟨_,rfl⟩:=ry; cases h; exact RcNeAt.list_int _ _ q1.isList hu
  | str y=>obtain ⟨rfl,_⟩:=t2.str; obtain ⟨_,rfl⟩:=ry; cases h; exact RcNeAt.list_str _ _ q1.isList hu
  | tup y=>obtain ⟨c,ys,rfl,p2,i2⟩:=t2.tup sb; cases ry; obtain ⟨_,_,q2,_⟩:=I.tuple p2; cases h; exact RcNeAt.list_tuple q1.isList q2 hu
  | lst y=>obtain ⟨c,ys,rfl,p2,i2⟩:=t2.lst sb; cases ry; obtain ⟨_,_,q2,_⟩:=I.list p2; exact ZW I ih p1 p2 i1 i2 h hu
  | dct y=>cases h
  | raw y=>cases h
  | xcp y=>cases h
  | ins y z=>cases h
  | at_ y z=>cases h
 | dct x=>cases e <;> cases h
 | raw x=>cases e <;> cases h
 | xcp x=>cases e <;> cases h
 | ins x z=>cases e <;> cases h
 | at_ x z=>cases e <;> cases h
end
noncomputable def eqD (a b:D):Out D:=match eqN 8 a b with
 | some c=>.ok (.bl c)
 | none=>.bad
noncomputable def neD (a b:D):Out D:=match eqN 8 a b with
 | some c=>.ok (.bl (!c))
 | none=>.bad
section
variable {C:Ct}
theorem yl (hK:C.K=X.K) (hu:X.A.units+64 < cLine):OpD X C .sh (compareOp .Eq) eqD:=by
 intro pins s σ H x y v u Q I rx ry h
 obtain ⟨F,dx,dy,sb,tx,ty,po⟩:=h
 rw [hK] at tx ty
 unfold eqD at po
 cases e:eqN 8 dx dy with
 | none=>rw [e] at po; exact po.elim
 | some c=>
  rw [e] at po
  exact qdl I sb (n:=7) (by omega) tx ty rx ry e _ _ _ _ ⟨.bl c,H,I,rfl,po _ F H sb .refl (.bl _)⟩
theorem xL (hK:C.K=X.K) (hu:X.A.units+64 < cLine):OpD X C .sh (compareOp .NotEq) neD:=by
 intro pins s σ H x y v u Q I rx ry h
 obtain ⟨F,dx,dy,sb,tx,ty,po⟩:=h
 rw [hK] at tx ty
 unfold neD at po
 cases e:eqN 8 dx dy with
 | none=>rw [e] at po; exact po.elim
 | some c=>
  rw [e] at po
  exact qdm I sb (n:=7) (by omega) tx ty rx ry e _ _ _ _ ⟨.bl _,H,I,rfl,po _ F H sb .refl (.bl _)⟩
end
end L2.D2
namespace L2.D2
open PySem PySem.Spec PyProof.Rows
open PySem.SeqAt
variable {X:Cx} {pins:List (Addr×Obj)} {σ:St} {F H:Hp} {s:Shared} {n:Nat} {v:V} {d e:D} {b:Bool}
section
theorem qbz (I:Inv X pins σ H s) (sb:Same F H):∀ (n:Nat) {v:V} {d d' e:D} {b b':Bool},Is X.K F v d->Is X.K F v d'->eqN n d e=some b->eqN n d' e=some b'->b=b':=by
 have notTL:∀ {a:Addr} {xs ys:List V},SqT X.K F a xs->SqL X.K F a ys->False:=fun p q=>by
  obtain ⟨_,_,q1,_⟩:=I.list (sb.seq q)
  obtain ⟨_,_,q2,_⟩:=I.tuple (qD sb p)
  exact absurd rfl (ne_of_list_tuple q1.isList q2)
 intro n
 induction n with
 | zero=>
  intro v d d' e b b' h1 h2 e1 e2
  have e1:eqS d e=some b:=e1
  have e2:eqS d' e=some b':=e2
  cases h1 <;> cases h2 <;> cases e <;> simp only [eqS] at e1 e2 <;> first
   | (cases e1; cases e2; rfl)
   | (cases e1; done)
   | (cases e2; done)
   | exact (notTL (by assumption) (by assumption)).elim
 | succ n ih=>
  have lists:∀ {xs:List V} {ds ds' es:List D} {b b':Bool},IsL X.K F xs ds->IsL X.K F xs ds'->wq (eqN n) ds es=some b->wq (eqN n) ds' es=some b'->b=b':=by
   intro xs
   induction xs with
   | nil=>intro ds ds' es b b' h1 h2 e1 e2; cases h1; cases h2; simp only [wq] at e1 e2; cases e1; cases e2; rfl
   | cons x xs ihx=>
    intro ds ds' es b b' h1 h2 e1 e2
    cases h1 with
    | cons a1 t1=>
     cases h2 with
     | cons a2 t2=>
      rename_i d ds d' ds'
      cases es with
      | nil=>simp only [wq] at e1 e2; cases e1; cases e2; rfl
      | cons e es=>
       unfold wq at e1 e2
       cases q:eqN n d e with
       | none=>rw [q] at e1; simp at e1
       | some k=>
        cases q2:eqN n d' e with
        | none=>rw [q2] at e2; simp at e2
        | some k'=>
         cases q3:wq (eqN n) ds es with
         | none=>rw [q,q3] at e1; simp at e1
         | some k3=>
          cases q4:wq (eqN n) ds' es with
          | none=>rw [q2,q4] at e2; simp at e2
          | some k4=>
           rw [q,q3] at e1
           rw [q2,q4] at e2
           rw [ih a1 a2 q q2,ihx t1 t2 q3 q4] at e1
           have e1:some (k'&&k4)=some b:=e1
           have e2:some (k'&&k4)=some b':=e2
           rw [e1] at e2
           exact br.inj e2
  intro v d d' e b b' h1 h2 e1 e2
  cases h1 with
  | tup p1 t1=>
   cases h2 with
   | tup p2 t2=>
    have q:=I.tuple_inj (qD sb p1) (qD sb p2)
    subst q
    have hl:=t1.length.symm.trans t2.length
    cases e with
    | tup es=>
     rename_i ds ds'
     simp only [eqN] at e1 e2
     cases q3:wq (eqN n) ds es with
     | none=>rw [q3] at e1; simp at e1
     | some k3=>
      cases q4:wq (eqN n) ds' es with
      | none=>rw [q4] at e2; simp at e2
      | some k4=>
       rw [q3] at e1
       rw [q4] at e2
       rw [lists t1 t2 q3 q4,hl] at e1
       exact br.inj (e1.symm.trans e2)
    | _=>simp only [eqN,eqS] at e1 e2 <;> first | (cases e1; cases e2; rfl) | (cases e1; done)
   | lst p2 t2=>exact (notTL p1 p2).elim
   | _=>cases e <;> simp [eqN,eqS] at e2
  | lst p1 t1=>
   cases h2 with
   | lst p2 t2=>
    have q:=I.list_inj (sb.seq p1) (sb.seq p2)
    subst q
    have hl:=t1.length.symm.trans t2.length
    cases e with
    | lst es=>
     rename_i ds ds'
     simp only [eqN] at e1 e2
     rw [hl] at e1
     by_cases z:ds'.length=es.length
     ·rw [if_pos z] at e1 e2
      exact lists t1 t2 e1 e2
     ·rw [if_neg z] at e1 e2
      exact br.inj (e1.symm.trans e2)
    | _=>simp only [eqN,eqS] at e1 e2 <;> first | (cases e1; cases e2; rfl) | (cases e1; done)
   | tup p2 t2=>exact (notTL p2 p1).elim
   | _=>cases e <;> simp [eqN,eqS] at e2
  | _=>cases h2 <;> cases e <;> simp only [eqN,eqS] at e1 e2 <;> first
   | (cases e1; cases e2; rfl)
   | (cases e1; done)
   | (cases e2; done)
open Classical in
noncomputable def UB (X:Cx) (F:Hp) (n:Nat) (e:D) (u:Value):Bool:=decide (∃ v d,Is X.K F v d/\RelV v u/\eqN n d e=some true)
open Classical in
theorem Yn (I:Inv X pins σ H s) (sb:Same F H) {u:Value} (h:Is X.K F v d) (r:RelV v u) (q:eqN n d e=some b):UB X F n e u=b:=by
 unfold UB
 cases b with
 | true=>exact decide_eq_true ⟨v,d,h,r,q⟩
 | false=>
  refine decide_eq_false ?_
  rintro ⟨w,d',h',r',q'⟩
  have e:=r.inj r'
  subst e
  exact absurd (qbz I sb n h h' q q') (by decide)
noncomputable def zL (n:Nat) (e:D):List D->Option Bool
 | []=>some false
 | d::ds=>(eqN n d e).bind fun a=>(zL n e ds).bind fun b=>some (a||b)
theorem QX {ds:List D} (h:zL n e (d::ds)=some b):∃ a c,eqN n d e=some a/\zL n e ds=some c/\b=(a||c):=by
 unfold zL at h
 cases q:eqN n d e with
 | none=>rw [q] at h; simp at h
 | some a=>
  cases q2:zL n e ds with
  | none=>rw [q,q2] at h; simp at h
  | some c=>rw [q,q2] at h; exact ⟨a,c,rfl,rfl,(br.inj h).symm⟩
theorem Yo (I:Inv X pins σ H s) (sb:Same F H):∀ {vs:List V} {ds:List D} {us:List Value} {b:Bool},IsL X.K F vs ds->Vals vs us->zL n e ds=some b->us.any (UB X F n e)=b/\∀ u∈us,∃ v d a,Is X.K F v d/\RelV v u/\eqN n d e=some a/\UB X F n e u=a
 | _,_,_,b,.nil,.nil,h=>⟨by simpa using (br.inj h),fun u hu=>nomatch hu⟩
 | _,_,_,b,.cons i t,.cons r rs,h=>by
  obtain ⟨a,c,q1,q2,rfl⟩:=QX h
  obtain ⟨ih1,ih2⟩:=Yo I sb t rs q2
  have e1:=Yn I sb i r q1
  refine ⟨by rw [c7,e1,ih1],fun u hu=>?_⟩
  rcases ac.mp hu with rfl | hu
  ·exact ⟨_,_,a,i,r,q1,e1⟩
  ·exact ih2 u hu
end
noncomputable def inD (x y:D):Out Bool:=match y with
 | .lst ds=>match zL 7 x ds with
  | some b=>.ok b
  | none=>.bad
 | .tup ds=>match zL 7 x ds with
  | some b=>.ok b
  | none=>.bad
 | _=>.bad
noncomputable def qcF (x y:D):Out D:=(inD x y).bind fun b=>.ok (.bl b)
noncomputable def Ub (x y:D):Out D:=(inD x y).bind fun b=>.ok (.bl (!b))
theorem TopIs.is {K:Frag} (s:Same F H) (h:TopIs K F H v d):∃ F',Same F F'/\Same F' H/\Is K F' v d:=by
 rcases h with h | ⟨a,rfl,o⟩
 ·exact ⟨F,Same.refl _,s,h⟩
 ·obtain ⟨u,hu⟩:∃ u,H a=some u:=by
   cases q:H a with
   | none=>exact absurd q o.there
   | some u=>exact ⟨u,rfl⟩
  by_cases hF:F a=none
  ·have gr:Same F (upd F a u):=fun b w e=>by rw [qr (qx e hF)]; exact e
   refine ⟨upd F a u,gr,fun b w e=>?_,?_⟩
   ·by_cases q:b=a
    ·subst q; rw [qm] at e; cases e; exact hu
    ·rw [qr q] at e; exact s b w e
   ·cases d with
    | lst ds=>obtain ⟨xs,e,t⟩:=o; rw [hu] at e; cases e; exact .lst (.inl (.inl qm)) (t.mono gr)
    | dct ds=>obtain ⟨xs,e,t⟩:=o; rw [hu] at e; cases e; exact .dct qm (t.mono gr)
    | ins C fs=>obtain ⟨dx,xs,e,t⟩:=o; rw [hu] at e; cases e; exact .ins qm (t.mono gr)
    | at_ b ds=>obtain ⟨eb,xs,e,t⟩:=o; rw [hu] at e; cases e; subst eb; exact .at_ (.inl (.inl qm)) (t.mono gr)
    | _=>exact o.elim
  ·obtain ⟨w,hw⟩:∃ w,F a=some w:=by
    cases q:F a with
    | none=>exact absurd q hF
    | some w=>exact ⟨w,rfl⟩
   have e:=s a w hw
   cases d with
   | lst ds=>obtain ⟨xs,e',t⟩:=o; rw [e'] at e; cases e; exact ⟨F,Same.refl _,s,.lst (.inl (.inl hw)) t⟩
   | dct ds=>obtain ⟨xs,e',t⟩:=o; rw [e'] at e; cases e; exact ⟨F,Same.refl _,s,.dct hw t⟩
   | ins C fs=>obtain ⟨dx,xs,e',t⟩:=o; rw [e'] at e; cases e; exact ⟨F,Same.refl _,s,.ins hw t⟩
   | at_ b ds=>obtain ⟨eb,xs,e',t⟩:=o; rw [e'] at e; cases e; subst eb; exact ⟨F,Same.refl _,s,.at_ (.inl (.inl hw)) t⟩
   | _=>exact o.elim
section
variable {C:Ct}
theorem QY {A:Around} {y x:V} {dx:D} {ds:List D} {b:Bool} {u v:Value} {a:Addr} {us:List Value} {xs:List V} (I:Inv X pins σ H s) (hu:A.units+64 < cLine) (sb:Same F H) (ix:Is X.K F x dx) (rx:RelV x v)
  (il:IsL X.K F xs ds) (r:Vals xs us) (h:zL 7 dx ds=some b):us.any (UB X F 7 dx)=b/\∀ w,w∈us.toArray->EqAt A.in1 s w v (UB X F 7 dx w):=by
 obtain ⟨h1,h2⟩:=Yo I sb il r h
 refine ⟨h1,fun w hw=>?_⟩
 obtain ⟨vv,d,k,i1,r1,q,e⟩:=h2 w (by simpa using hw)
 rw [e]
 exact Ym I sb 7 (by show A.units+1+7 < cLine; omega) i1 ix r1 rx q
theorem qe7 (hK:C.K=X.K) (hu:X.A.units+64 < cLine):OpD X C .sh (compareOp .In) qcF:=by
 intro pins s σ H x y v u Q I rx ry h
 obtain ⟨F,dx,dy,sb,tx,ty,po⟩:=h
 rw [hK] at tx ty
 unfold qcF inD at po
 obtain ⟨F',g',sb',ix⟩:=tx.is sb
 cases dy with
 | lst ds=>
  cases e:zL 7 dx ds with
  | none=>simp only [e] at po; exact po.elim
  | some b=>
   simp only [e] at po
   obtain ⟨a,xs,rfl,p,il⟩:=ty.lst sb
   cases ry
   obtain ⟨us,r,pl,_⟩:=I.list p
   obtain ⟨h1,h2⟩:=QY (A:=X.A) (y:=.non) (a:=a) (u:=.none) I hu sb' ix rx (il.mono g') r e
   refine in_listAt (UB X F' 7 dx) pl.isList h2 ⟨.bl b,H,I,by show _=_; rw [<-h1]; simp,po _ F H sb .refl (.bl _)⟩
 | tup ds=>
  cases e:zL 7 dx ds with
  | none=>simp only [e] at po; exact po.elim
  | some b=>
   simp only [e] at po
   obtain ⟨a,xs,rfl,p,il⟩:=ty.tup sb
   cases ry
   obtain ⟨us,r,pl,_⟩:=I.tuple p
   obtain ⟨h1,h2⟩:=QY (A:=X.A) (y:=.non) (a:=a) (u:=.none) I hu sb' ix rx (il.mono g') r e
   refine in_tupleAt (UB X F' 7 dx) pl h2 ⟨.bl b,H,I,by show _=_; rw [<-h1]; simp,po _ F H sb .refl (.bl _)⟩
 | _=>exact po.elim
theorem ZX (hK:C.K=X.K) (hu:X.A.units+64 < cLine):OpD X C .sh (compareOp .NotIn) Ub:=by
 intro pins s σ H x y v u Q I rx ry h
 obtain ⟨F,dx,dy,sb,tx,ty,po⟩:=h
 rw [hK] at tx ty
 unfold Ub inD at po
 obtain ⟨F',g',sb',ix⟩:=tx.is sb
 cases dy with
 | lst ds=>
  cases e:zL 7 dx ds with
  | none=>simp only [e] at po; exact po.elim
  | some b=>
   simp only [e] at po
   obtain ⟨a,xs,rfl,p,il⟩:=ty.lst sb
   cases ry
   obtain ⟨us,r,pl,_⟩:=I.list p
   obtain ⟨h1,h2⟩:=QY (A:=X.A) (y:=.non) (a:=a) (u:=.none) I hu sb' ix rx (il.mono g') r e
   refine notIn_listAt (UB X F' 7 dx) pl.isList h2 ⟨.bl (!b),H,I,by show _=_; rw [<-h1]; simp,po _ F H sb .refl (.bl _)⟩
 | tup ds=>
  cases e:zL 7 dx ds with
  | none=>simp only [e] at po; exact po.elim
  | some b=>
   simp only [e] at po
   obtain ⟨a,xs,rfl,p,il⟩:=ty.tup sb
   cases ry
   obtain ⟨us,r,pl,_⟩:=I.tuple p
   obtain ⟨h1,h2⟩:=QY (A:=X.A) (y:=.non) (a:=a) (u:=.none) I hu sb' ix rx (il.mono g') r e
   refine notIn_tupleAt (UB X F' 7 dx) pl h2 ⟨.bl (!b),H,I,by show _=_; rw [<-h1]; simp,po _ F H sb .refl (.bl _)⟩
 | _=>exact po.elim
end
end L2.D2
namespace L2.D2
open PySem PySem.Spec PyProof.Rows
def PoT (C:Ct) (own:List Nat) (σ:St) (F H:Hp) (r:Out (Bool×Sl)) (Q:Bool->Hp->Prop):Prop:=match r with
 | .ok (b,ρ')=>∀ F' H',Rep C.K own F' H' σ ρ'->Chg (OA own σ) F H F' H'->Q b H'
 | .exc c ρ'=>∀ F' H',Same F' H'->UA C.K C.ox F' H' σ ρ'->Chg (OA own σ) F H F' H'->C.E (C.cv c) none H'
 | .bad=>False
def tT (C:Ct) (own:List Nat) (f:Sl->Out (Bool×Sl)):TT:=fun σ H Q=>∃ F ρ,Rep C.K own F H σ ρ/\PoT C own σ F H (f ρ) Q
variable {C:Ct} {own:List Nat} {σ:St} {F H F1 H1:Hp} {Q:Bool->Hp->Prop}
theorem PoT.shift {r:Out (Bool×Sl)} (h:PoT C own σ F H r Q) (c:Chg (OA own σ) F H F1 H1):PoT C own σ F1 H1 r Q:=by
 cases r with
 | ok p=>exact fun F' H' rp c'=>h F' H' rp (c.trans' c')
 | exc x=>exact fun F' H' s io c'=>h F' H' s io (c.trans' c')
 | bad=>exact h.elim
variable {o:Out (D×Sl)}
theorem PoT.bindV {ma:Mo} {k:D×Sl->Out (Bool×Sl)} {R:VK} (hp:PoT C own σ F H (o.bind k) Q)
  (h:∀ v F1 H1 d ρ1,Rep C.K own F1 H1 σ ρ1->Chg (OA own σ) F H F1 H1->MoIs C.K ma H F1 H1 v d->PoT C own σ F1 H1 (k (d,ρ1)) Q->R v H1):Po C own ma σ F H o R:=by
 cases o with
 | ok p=>
  obtain ⟨d,ρ1⟩:=p
  exact fun v F1 H1 rp c mo=>h v F1 H1 d ρ1 rp c mo (PoT.shift (show PoT C own σ F H (k (d,ρ1)) Q from hp) c)
 | exc x=>exact hp
 | bad=>exact hp.elim
theorem PoT.bindT {o:Out (Bool×Sl)} {k:Bool×Sl->Out (Bool×Sl)} {R:Bool->Hp->Prop} (hp:PoT C own σ F H (o.bind k) Q)
  (h:∀ F1 H1 b ρ1,Rep C.K own F1 H1 σ ρ1->Chg (OA own σ) F H F1 H1->PoT C own σ F1 H1 (k (b,ρ1)) Q->R b H1):PoT C own σ F H o R:=by
 cases o with
 | ok p=>
  obtain ⟨d,ρ1⟩:=p
  exact fun F1 H1 rp c=>h F1 H1 d ρ1 rp c (PoT.shift (show PoT C own σ F H (k (d,ρ1)) Q from hp) c)
 | exc x=>exact hp
 | bad=>exact hp.elim
variable {m:Mo}
theorem Po.bindT {o:Out (Bool×Sl)} {k:Bool×Sl->Out (D×Sl)} {Q:VK} {R:Bool->Hp->Prop} (hp:Po C own m σ F H (o.bind k) Q)
  (h:∀ F1 H1 b ρ1,Rep C.K own F1 H1 σ ρ1->Chg (OA own σ) F H F1 H1->Po C own m σ F1 H1 (k (b,ρ1)) Q->R b H1):PoT C own σ F H o R:=by
 cases o with
 | ok p=>
  obtain ⟨d,ρ1⟩:=p
  exact fun F1 H1 rp c=>h F1 H1 d ρ1 rp c (Po.shift (show Po C own m σ F H (k (d,ρ1)) Q from hp) c)
 | exc x=>exact hp
 | bad=>exact hp.elim
noncomputable def yH:D->Out Bool
 | .non=>.ok false
 | .bl b=>.ok b
 | .int i=>.ok (i != 0)
 | .str x=>.ok ((x.length:Int) != 0)
 | .tup xs=>.ok (!xs.isEmpty)
 | .lst xs=>.ok (!xs.isEmpty)
 | .dct xs=>.ok (!xs.isEmpty)
 | .raw _=>.bad
 | .xcp _=>.bad
 | .ins _ _=>.bad
 | .at_ _ _=>.bad
noncomputable def Kh (f:Sl->Out (D×Sl)):Sl->Out (Bool×Sl):=fun ρ=>(f ρ).bind fun p=>(yH p.1).bind fun b=>.ok (b,p.2)
variable {K:Frag} {vs:List V} {ds:List D}
theorem IsL.isEmpty (h:IsL K F vs ds):vs.isEmpty=ds.isEmpty:=by cases h <;> rfl
theorem IsK.isEmpty {vs:List (Key×V)} {ds:List (Key×D)} (h:IsK K F vs ds):vs.isEmpty=ds.isEmpty:=by cases h <;> rfl
variable {v:V} {d:D}
theorem qbA {b:Bool} (s:Same F H) (h:TopIs K F H v d) (e:yH d=.ok b):qeY K v H b:=by
 cases d with
 | non=>obtain rfl:=h.non; cases e; rfl
 | bl x=>obtain rfl:=h.bl; cases e; rfl
 | int x=>obtain rfl:=h.int; cases e; rfl
 | str x=>obtain ⟨rfl,q⟩:=h.str; cases e; exact ⟨q,rfl⟩
 | tup x=>obtain ⟨a,xs,rfl,p,t⟩:=h.tup s; cases e; exact .inr (.inl ⟨xs,p,by rw [t.isEmpty]⟩)
 | lst x=>obtain ⟨a,xs,rfl,p,t⟩:=h.lst s; cases e; exact .inl ⟨xs,p,by rw [t.isEmpty]⟩
 | dct x=>obtain ⟨a,xs,rfl,p,t⟩:=h.dct s; cases e; exact .inr (.inr ⟨xs,p,by rw [t.isEmpty]⟩)
 | raw x=>cases e
 | xcp x=>cases e
 | ins x y=>cases e
 | at_ x y=>cases e
noncomputable def qR (f:Sl->Out (D×Sl)):Sl->Out (Bool×Sl):=fun ρ=>(f ρ).bind fun p=>match p.1 with
 | .bl b=>.ok (b,p.2)
 | _=>.bad
variable {X:Cx} {c e:Expr} {f fa:Sl->Out (D×Sl)} {ft:Sl->Out (Bool×Sl)} {ma mb:Mo} {pos:Pos} {op op':CmpOp} {ρ:Sl} {g':D->D->Out D}
section
variable {a b:Expr} {fb fc:Sl->Out (D×Sl)} {fu:Sl->Out (Bool×Sl)} {mc:Mo} {rest:List Expr}
theorem jV (hK:C.K=X.K) (h:PE X e (tE C own m f)) (he:∀ whole,isTrue e X.env whole=(do let v <-whole; standAt e.pos; holding [v] (truthy v))):PT X e (tT C own (Kh f)):=by
 refine Ye (ZG h he) fun σ H Q ⟨F,ρ,rp,h⟩=>⟨F,ρ,rp,PoT.bindV h fun v F1 H1 d ρ1 rp1 c1 mo1 h1=>?_⟩
 cases q:yH d with
 | ok k=>
  have h1:PoT C own σ F1 H1 ((yH d).bind fun b=>.ok (b,ρ1)) Q:=h1
  rw [q] at h1
  exact ⟨k,by rw [<-hK]; exact qbA rp1.sub mo1.top q,h1 F1 H1 rp1 .refl⟩
 | exc x=>
  have h1:PoT C own σ F1 H1 ((yH d).bind fun b=>.ok (b,ρ1)) Q:=h1
  cases d <;> cases q
 | bad=>
  have h1:PoT C own σ F1 H1 ((yH d).bind fun b=>.ok (b,ρ1)) Q:=h1
  rw [q] at h1
  exact h1.elim
theorem Kv (h:tT C own (qR f) σ H Q):tE C own .sh f σ H fun x H'=>∃ k,x=.bl k/\Q k H':=by
 obtain ⟨F,ρ,rp,h⟩:=h
 refine ⟨F,ρ,rp,PoT.bindV h fun v F1 H1 d ρ1 rp1 c1 mo1 h1=>?_⟩
 cases d with
 | bl k=>
  have mo1:Is C.K F1 v (.bl k):=mo1
  cases mo1
  exact ⟨k,rfl,h1 F1 H1 rp1 .refl⟩
 | _=>exact h1.elim
theorem qP {g:D->D->Out D} (ho:OpD X C .sh (compareOp op) g) (ha:PE X a (tE C own ma fa)) (hb:PE X b (tE C own mb fb)) (hma:ma≠.any:=by decide)
  (hk:behindInMarks op b=false:=by first | exact VJ _ | with_unfolding_all rfl):PT X (.Compare a [op] [b] pos) (tT C own (qR (d2 g fa fb))):=by
 refine Ye (UK ho ha hb hk) fun σ H Q h=>?_
 exact QW hma (Kv h)
noncomputable def QZ (ft:Sl->Out (Bool×Sl)):Sl->Out (Bool×Sl):=fun ρ=>(ft ρ).bind fun p=>.ok (!p.1,p.2)
theorem jE (h:PT X a (tT C own ft)):PT X (.UnaryOp .Not a pos) (tT C own (QZ ft)):=by
 refine Ye (qcU h) fun σ H Q ⟨F,ρ,rp,h⟩=>⟨F,ρ,rp,PoT.bindT h fun F1 H1 b ρ1 rp1 c1 h1=>h1 F1 H1 rp1 .refl⟩
theorem qe8 {e:Expr} {t t':TT} (h:PW X e t) (i:∀ σ H Q,t' σ H Q->t σ H Q):PW X e t':=⟨fun wh pins s σ H Q I hw=>h wh pins s σ H Q I (i σ H Q hw)⟩
noncomputable def qgj (ft fu:Sl->Out (Bool×Sl)):Sl->Out (Bool×Sl):=fun ρ=>(ft ρ).bind fun p=>if p.1=true then fu p.2 else .ok (false,p.2)
noncomputable def dOr (ft fu:Sl->Out (Bool×Sl)):Sl->Out (Bool×Sl):=fun ρ=>(ft ρ).bind fun p=>if p.1=true then .ok (true,p.2) else fu p.2
theorem vC {op} (h:PT X a (tT C own ft)):PW X (.BoolOp op [a] pos) (tT C own ft):=by
 cases op
 ·exact qbg h
 ·exact qcT h
theorem uq (ha:PT X a (tT C own ft)) (hb:PW X (.BoolOp .Or (b::rest) pos) (tT C own fu)):PW X (.BoolOp .Or (a::b::rest) pos) (tT C own (dOr ft fu)):=by
 refine qe8 (qeJ ha hb) fun σ H Q ⟨F,ρ,rp,h⟩=>⟨F,ρ,rp,PoT.bindT h fun F1 H1 k ρ1 rp1 c1 h1=>?_⟩
 cases k with
 | true=>exact h1 F1 H1 rp1 .refl
 | false=>exact ⟨F1,ρ1,rp1,h1⟩
noncomputable def Ja (fa fb:Sl->Out (D×Sl)):Sl->Out (D×Sl):=fun ρ=>(fa ρ).bind fun p=>match p.1 with
 | .bl true=>fb p.2
 | .bl false=>.ok (.bl false,p.2)
 | _=>.bad
noncomputable def qfH (fa fb:Sl->Out (D×Sl)):Sl->Out (D×Sl):=fun ρ=>(fa ρ).bind fun p=>match p.1 with
 | .bl true=>.ok (.bl true,p.2)
 | .bl false=>fb p.2
 | _=>.bad
theorem VU {op} (h:PE X a (tE C own m f)):PE X (.BoolOp op [a] pos) (tE C own m f):=qcV h
theorem Jb (ha:PE X a (tE C own .sh fa)) (hb:PE X (.BoolOp .And (b::rest) pos) (tE C own .sh fb)):PE X (.BoolOp .And (a::b::rest) pos) (tE C own .sh (Ja fa fb)):=by
 refine jd (qcW ha hb) fun σ H Q ⟨F,ρ,rp,h⟩=>⟨F,ρ,rp,Po.bind h fun v F1 H1 d ρ1 rp1 c1 mo1 h1=>?_⟩
 cases d with
 | bl k=>
  have mo1:Is C.K F1 v (.bl k):=mo1
  cases mo1
  refine ⟨k,rfl,?_⟩
  cases k with
  | true=>exact ⟨F1,ρ1,rp1,h1⟩
  | false=>exact h1 _ F1 H1 rp1 .refl (.bl _)
 | _=>exact h1.elim
noncomputable def dIf (ft:Sl->Out (Bool×Sl)) (fa fb:Sl->Out (D×Sl)):Sl->Out (D×Sl):=fun ρ=>(ft ρ).bind fun p=>if p.1=true then fa p.2 else fb p.2
theorem ZY {t:Expr} (ht:PT X t (tT C own ft)) (ha:PE X a (tE C own ma fa)) (hb:PE X b (tE C own mb fb)) (h1:ma≠.any:=by decide) (h2:mb≠.any:=by decide):PE X (.IfExp t a b pos) (tE C own .sh (dIf ft fa fb)):=by
 refine jd (Zy ht (vg ha h1) (vg hb h2)) fun σ H Q ⟨F,ρ,rp,h⟩=>⟨F,ρ,rp,Po.bindT h fun F1 H1 k ρ1 rp1 c1 h1=>?_⟩
 cases k with
 | true=>exact ⟨F1,ρ1,rp1,h1⟩
 | false=>exact ⟨F1,ρ1,rp1,h1⟩
noncomputable def uO (g g':D->D->Out D) (fa fb fc:Sl->Out (D×Sl)):Sl->Out (D×Sl):=fun ρ=>(fa ρ).bind fun p=>(fb p.2).bind fun q=>(g p.1 q.1).plain.bind fun z=>match z with
 | .bl true=>(fc q.2).bind fun r=>(g' q.1 r.1).plain.bind fun d=>.ok (d,r.2)
 | .bl false=>.ok (.bl false,q.2)
 | _=>.bad
theorem PoV.bind {o:Out D} {k:D->Out (D×Sl)} {Q R:VK} (rp:Rep C.K own F H σ ρ) (h:Po C own m σ F H (o.plain.bind k) Q)
  (hk:∀ v F1 H1 d,Rep C.K own F1 H1 σ ρ->Chg No F H F1 H1->MoIs C.K ma H F1 H1 v d->Po C own m σ F1 H1 (k d) Q->R v H1):PoV C ma F H o R:=by
 cases o with
 | ok d=>exact fun v F1 H1 s c mo=>hk v F1 H1 d (rp.grow c s) c mo (Po.shift (show Po C own m σ F H (k d) Q from h) c.ofNo)
 | exc c=>exact h.elim
 | bad=>exact h.elim
theorem VV {g:D->D->Out D} {Q:VK} (hma:ma≠.any) (hmb:mb≠.any) (h:tE C own .sh (uO g g' fa fb fc) σ H Q) :
  UL (fun x y H Q=>∃ F dx dy,Same F H/\TopIs C.K F H x dx/\TopIs C.K F H y dy/\PoV C .sh F H (g dx dy) Q) (fun x y H Q=>∃ F dx dy,Same F H/\TopIs C.K F H x dx/\TopIs C.K F H y dy/\PoV C .sh F H (g' dx dy) Q)
   (tE C own ma fa) (tE C own mb fb) (tE C own mc fc) σ H Q:=by
 obtain ⟨F,ρ,rp,h⟩:=h
 refine ⟨F,ρ,rp,Po.bind h fun v F1 H1 d ρ1 rp1 c1 mo1 h1=>⟨F1,ρ1,rp1,Po.bind h1 fun w F2 H2 e ρ2 rp2 c2 mo2 h2=>?_⟩⟩
 have oa:∀ x,OA own σ x->H x≠none:=fun x z=>(rp.OA_there z).1
 have oa1:∀ x,OA own σ x->H1 x≠none:=fun x z=>(rp1.OA_there z).1
 refine ⟨F2,d,e,rp2.sub,(mo1.grow hma c2 oa).top,mo2.top,PoV.bind (m:=.sh) rp2 h2 fun z F3 H3 dz rp3 c3 mo3 h3=>?_⟩
 cases dz with
 | bl k=>
  have mo3:Is C.K F3 z (.bl k):=mo3
  cases mo3
  refine ⟨k,rfl,?_⟩
  cases k with
  | true=>
   refine ⟨F3,ρ2,rp3,Po.bind h3 fun w' F4 H4 r ρ4 rp4 c4 mo4 h4=>?_⟩
   exact ⟨F4,e,r,rp4.sub,((mo2.grow hmb (c3.ofNo) oa1).grow hmb c4 oa1).top,mo4.top,PoV.of rp4 h4⟩
  | false=>exact h3 _ F3 H3 rp3 .refl (.bl _)
 | _=>exact h3.elim
theorem VW {g:D->D->Out D} (ho:OpD X C .sh (compareOp op) g) (ho':OpD X C .sh (compareOp op') g') (ha:PE X a (tE C own ma fa)) (hb:PE X b (tE C own mb fb)) (hc:PE X c (tE C own mc fc)) (hma:ma≠.any:=by decide) (hmb:mb≠.any:=by decide)
  (hm:lastMarks [op,op'] [b,c]=false:=by with_unfolding_all rfl):PE X (.Compare a [op,op'] [b,c] pos) (tE C own .sh (uO g g' fa fb fc)):=jd (ZE ho ho' ha hb hc hm) fun _ _ _ h=>VV hma hmb h
theorem Jc {g:D->D->Out D} (ho:OpD X C .sh (compareOp op) g) (ho':OpD X C .sh (compareOp op') g') (ha:PE X a (tE C own ma fa)) (hb:PE X b (tE C own mb fb)) (hc:PE X c (tE C own mc fc)) (hma:ma≠.any:=by decide) (hmb:mb≠.any:=by decide)
  (hm:lastMarks [op,op'] [b,c]=false:=by with_unfolding_all rfl):PT X (.Compare a [op,op'] [b,c] pos) (tT C own (qR (uO g g' fa fb fc))):=Ye (ZF ho ho' ha hb hc hm) fun _ _ _ h=>VV hma hmb (Kv h)
theorem Yp:OpR X (compareOp .LtE) (fun x y H Q=>∃ i j,x=.str i/\y=.str j/\Q (.bl (!vh j i)) H):=by
 intro pins s σ H x y v u Q I rx ry h
 obtain ⟨i,j,rfl,rfl,q⟩:=h
 obtain ⟨t,rfl⟩:=rx
 obtain ⟨t',rfl⟩:=ry
 exact PySem.P.le_str (VI I q (by simp [vh]))
noncomputable def leD:D->D->Out D
 | .int i,.int j=>.ok (.bl (decide (i<=j)))
 | .str x,.str y=>.ok (.bl (!vh y x))
 | _,_=>.bad
theorem Jd:OpD X C .sh (compareOp .LtE) leD:=by
 intro pins s σ H x y v u Q I rx ry h
 obtain ⟨F,dx,dy,sb,tx,ty,po⟩:=h
 cases dx <;> try exact po.elim
 ·cases dy <;> try exact po.elim
  obtain rfl:=tx.int
  obtain rfl:=ty.int
  exact qeW pins s σ H _ _ v u Q I rx ry ⟨_,_,rfl,rfl,po _ F H sb .refl (.bl _)⟩
 ·cases dy <;> try exact po.elim
  obtain ⟨rfl,_⟩:=tx.str
  obtain ⟨rfl,_⟩:=ty.str
  exact Yp pins s σ H _ _ v u Q I rx ry ⟨_,_,rfl,rfl,po _ F H sb .refl (.bl _)⟩
noncomputable def geD:D->D->Out D:=gL fun i j=>.ok (.bl (decide (j<=i)))
theorem qbB:OpD X C .sh (compareOp .GtE) geD:=Yh qeX fun _ _ _=>.bl _
noncomputable def qev:D->D->Out D
 | .non,.non=>.ok (.bl true)
 | .raw _,.non=>.bad
 | _,.non=>.ok (.bl false)
 | _,_=>.bad
noncomputable def Uc:D->D->Out D
 | .non,.non=>.ok (.bl false)
 | .raw _,.non=>.bad
 | _,.non=>.ok (.bl true)
 | _,_=>.bad
theorem TopIs.notN (h:TopIs K F H v d) (h1:d≠.non) (h2:∀ u,d≠.raw u):v≠.non:=by
 rintro rfl
 rcases h with h | ⟨a,e,_⟩
 ·cases h
  ·exact h1 rfl
  ·exact h2 _ rfl
 ·cases e
theorem qdn:OpD X C .sh (compareOp .Is) qev:=by
 intro pins s σ H x y v u Q I rx ry h
 obtain ⟨F,dx,dy,sb,tx,ty,po⟩:=h
 have hy:dy=.non:=by cases dy <;> first | rfl | (cases dx <;> exact po.elim)
 subst hy
 obtain rfl:=ty.non
 refine qc7 pins s σ H x .non v u Q I rx ry ⟨rfl,?_⟩
 cases dx with
 | non=>obtain rfl:=tx.non; exact po _ F H sb .refl (.bl _)
 | raw _=>exact po.elim
 | _=>rw [decide_eq_false (tx.notN (by intro z; cases z) (by intro _ z; cases z))]; exact po _ F H sb .refl (.bl _)
theorem Yq:OpD X C .sh (compareOp .IsNot) Uc:=by
 intro pins s σ H x y v u Q I rx ry h
 obtain ⟨F,dx,dy,sb,tx,ty,po⟩:=h
 have hy:dy=.non:=by cases dy <;> first | rfl | (cases dx <;> exact po.elim)
 subst hy
 obtain rfl:=ty.non
 refine qbk pins s σ H x .non v u Q I rx ry ⟨rfl,?_⟩
 cases dx with
 | non=>obtain rfl:=tx.non; exact po _ F H sb .refl (.bl _)
 | raw _=>exact po.elim
 | _=>rw [decide_eq_false (tx.notN (by intro z; cases z) (by intro _ z; cases z))]; exact po _ F H sb .refl (.bl _)
end
inductive Fl where
 | nx | rt (d:D) | bk | ct
structure Nx (C:Ct) (own own':List Nat) (σ:St) (F H:Hp) (ρ':Sl) (σ':St) (F' H':Hp):Prop where
 rep:Rep C.K own' F' H' σ' ρ'
 chg:Chg (OA own σ) F H F' H'
 oa:∀ b,OA own' σ' b->OA own σ b\/H b=none
 io:∀ i∈C.io,σ'[i]?=σ[i]?
def PoS (C:Ct) (own own':List Nat) (σ:St) (F H:Hp) (r:Out (Fl×Sl)) (D:Ends):Prop:=match r with
 | .ok (.nx,ρ')=>∀ σ' F' H',Nx C own own' σ F H ρ' σ' F' H'->D.nx σ' H'
 | .ok (.rt d,ρ')=>∀ v σ' F' H',Same F' H'->UA C.K C.io F' H' σ' ρ'->Chg (OA own σ) F H F' H'->(∀ i∈C.io,σ'[i]?=σ[i]?)->MoIs C.K C.mr H F' H' v d->D.rt v H'
 | .ok (.bk,ρ')=>∀ σ' F' H',Nx C own C.ol σ F H ρ' σ' F' H'->D.bk σ' H'
 | .ok (.ct,ρ')=>∀ σ' F' H',Nx C own C.ol σ F H ρ' σ' F' H'->D.ct σ' H'
 | .exc c ρ'=>∀ F' H',Same F' H'->UA C.K C.ox F' H' σ ρ'->Chg (OA own σ) F H F' H'->C.E (C.cv c) none H'
 | .bad=>False
def tSt (C:Ct) (own own':List Nat) (f:Sl->Out (Fl×Sl)):TS:=fun D σ H=>∃ F ρ,Rep C.K own F H σ ρ/\PoS C own own' σ F H (f ρ) D
variable {o1 o2 o3:List Nat} {σ1:St} {ρ1:Sl}
theorem Nx.then {σ2:St} {F2 H2:Hp} {ρ2:Sl} (a:Nx C o1 o2 σ F H ρ1 σ1 F1 H1) (b:Nx C o2 o3 σ1 F1 H1 ρ2 σ2 F2 H2):Nx C o1 o3 σ F H ρ2 σ2 F2 H2 where
 rep:=b.rep
 chg:=a.chg.trans b.chg a.oa
 oa:=fun x h=>by
  rcases b.oa x h with z | z
  ·exact a.oa x z
  ·refine .inr ?_
   cases q:H x with
   | none=>rfl
   | some o=>exact absurd z (a.chg.stay x (by rw [q]; simp))
 io:=fun i hi=>(b.io i hi).trans (a.io i hi)
theorem PoS.shift {r:Out (Fl×Sl)} {D:Ends} (h:PoS C o1 o3 σ F H r D) (a:Nx C o1 o2 σ F H ρ1 σ1 F1 H1):PoS C o2 o3 σ1 F1 H1 r D:=by
 cases r with
 | ok p=>
  obtain ⟨fl,ρ'⟩:=p
  cases fl with
  | nx=>exact fun σ' F' H' n=>h σ' F' H' (a.then n)
  | rt d=>exact fun v σ' F' H' s io c e mo=>h v σ' F' H' s io (a.chg.trans c a.oa) (fun i hi=>(e i hi).trans (a.io i hi)) (MoIs.back (Ha:=H1) a.chg mo)
  | bk=>exact fun σ' F' H' n=>h σ' F' H' (a.then n)
  | ct=>exact fun σ' F' H' n=>h σ' F' H' (a.then n)
 | exc c=>exact fun F' H' s io c'=>h F' H' s (fun i hi=>by
   obtain ⟨d,b,e1,e2,e3⟩:=io i hi
   exact ⟨d,b,e1,by rw [<-a.io i (C.oxs i hi)]; exact e2,e3⟩) (a.chg.trans c' a.oa)
 | bad=>exact h.elim
theorem Nx.ofE (r:Rep C.K own F1 H1 σ ρ1) (c:Chg (OA own σ) F H F1 H1):Nx C own own σ F H ρ1 σ F1 H1:=⟨r,c,fun _ h=>.inl h,fun _ _=>rfl⟩
variable {own':List Nat}
theorem PoS.bindE {m:Mo} {k:D×Sl->Out (Fl×Sl)} {D:Ends} {R:VK} (hp:PoS C own own' σ F H (o.bind k) D)
  (h:∀ v F1 H1 d ρ1,Rep C.K own F1 H1 σ ρ1->Chg (OA own σ) F H F1 H1->MoIs C.K m H F1 H1 v d->PoS C own own' σ F1 H1 (k (d,ρ1)) D->R v H1):Po C own m σ F H o R:=by
 cases o with
 | ok p=>
  obtain ⟨d,ρ1⟩:=p
  exact fun v F1 H1 rp c mo=>h v F1 H1 d ρ1 rp c mo (PoS.shift (show PoS C own own' σ F H (k (d,ρ1)) D from hp) (.ofE rp c))
 | exc x=>exact hp
 | bad=>exact hp.elim
theorem PoS.bindT {o:Out (Bool×Sl)} {k:Bool×Sl->Out (Fl×Sl)} {D:Ends} {R:Bool->Hp->Prop} (hp:PoS C own own' σ F H (o.bind k) D)
  (h:∀ F1 H1 b ρ1,Rep C.K own F1 H1 σ ρ1->Chg (OA own σ) F H F1 H1->PoS C own own' σ F1 H1 (k (b,ρ1)) D->R b H1):PoT C own σ F H o R:=by
 cases o with
 | ok p=>
  obtain ⟨d,ρ1⟩:=p
  exact fun F1 H1 rp c=>h F1 H1 d ρ1 rp c (PoS.shift (show PoS C own own' σ F H (k (d,ρ1)) D from hp) (.ofE rp c))
 | exc x=>exact hp
 | bad=>exact hp.elim
variable {b a:Addr} {t':TS} {st:Stmt} {fe:Sl->Out (D×Sl)} {i:Nat} {x:Str} {pos':Pos}
section
variable {sts rest:List Stmt} {f g:Sl->Out (Fl×Sl)}
theorem zM {t:TS} (h:PS X st t) (i:∀ D σ H,t' D σ H->t D σ H):PS X st t':=⟨fun pins s σ H D I hw=>h pins s σ H D I (i D σ H hw)⟩
theorem Je {t:TS} (h:PSs X sts t) (i:∀ D σ H,t' D σ H->t D σ H):PSs X sts t':=⟨fun pins s σ H D I hw=>h pins s σ H D I (i D σ H hw)⟩
noncomputable def jF:Sl->Out (Fl×Sl):=fun ρ=>.ok (.nx,ρ)
noncomputable def jm (f g:Sl->Out (Fl×Sl)):Sl->Out (Fl×Sl):=fun ρ=>(f ρ).bind fun p=>match p.1 with
 | .nx=>g p.2
 | fl=>.ok (fl,p.2)
theorem Nx.refl (r:Rep C.K own F H σ ρ):Nx C own own σ F H ρ σ F H:=.ofE r .refl
theorem qS:PSs X [] (tSt C own own jF):=Je UE fun D σ H ⟨F,ρ,rp,h⟩=>h σ F H (.refl rp)
theorem qaB {D:Ends} (h:tSt C o1 o3 (jm f g) D σ H):tSt C o1 o2 f { D with nx:=tSt C o2 o3 g D } σ H:=by
 obtain ⟨F,ρ,rp,h⟩:=h
 refine ⟨F,ρ,rp,?_⟩
 unfold jm at h
 cases q:f ρ with
 | ok p=>
  rw [q] at h
  obtain ⟨fl,ρ1⟩:=p
  cases fl with
  | nx=>exact fun σ' F' H' n=>⟨F',ρ1,n.rep,PoS.shift (show PoS C o1 o3 σ F H (g ρ1) D from h) n⟩
  | rt d=>exact h
  | bk=>exact h
  | ct=>exact h
 | exc c=>rw [q] at h; exact h
 | bad=>rw [q] at h; exact h.elim
theorem qo (h1:PS X st (tSt C o1 o2 f)) (h2:PSs X rest (tSt C o2 o3 g)):PSs X (st::rest) (tSt C o1 o3 (jm f g)):=Je (wU h1 h2) fun D σ H h=>qaB h
theorem qp (h1:PS X st (tSt C o1 o2 f)):PSs X [st] (tSt C o1 o2 f):=Km h1
theorem Rep.weak:∀ (drop:List Nat) {own own':List Nat},(∀ i,i∈own'↔i∈own/\i∉drop)->Rep K own F H σ ρ->∃ F',Rep K own' F' H σ ρ/\Chg (OA own σ) F H F' H
 | [],own,own',hs,rp=>⟨F,⟨rp.sub,rp.len,fun i d hi=>rp.val i d fun z=>hi ((hs i).mpr ⟨z,by simp⟩),fun i d hi=>rp.ow i d ((hs i).mp hi).1,fun i hi=>rp.opn i ((hs i).mp hi).1,fun i j a hi hj=>rp.dis i j a ((hs i).mp hi).1 ((hs j).mp hj).1⟩,.refl⟩
 | k::r,own,own',hs,rp=>by
  obtain ⟨F1,rp1,c1⟩:=Rep.weak r (own:=own) (own':=own.filter fun i=>decide (i∉r)) (fun i=>by simp) rp
  by_cases hk:k∈own/\k∉r
  ·obtain ⟨d,hd⟩:=rp1.opn k (by simp [hk.1,hk.2])
   obtain ⟨a,h1,h2,h3⟩:=rp1.ow k d (by simp [hk.1,hk.2]) hd
   obtain ⟨u,hu⟩:∃ u,H a=some u:=by
    cases q:H a with
    | none=>exact absurd q h3.there
    | some u=>exact ⟨u,rfl⟩
   have gr:Same F1 (upd F1 a u):=fun b w e=>by rw [qr (qx e h2)]; exact e
   refine ⟨upd F1 a u,⟨fun b w e=>?_,rp1.len,fun i d' hi e=>?_,fun i d' hi e=>?_,fun i hi=>?_,fun i j b hi hj=>?_⟩,?_⟩
   ·by_cases q:b=a
    ·subst q; rw [qm] at e; cases e; exact hu
    ·rw [qr q] at e; exact rp1.sub b w e
   ·by_cases q:i=k
    ·subst q
     rw [hd] at e; cases e
     refine ⟨_,h1,?_⟩
     cases d with
     | lst ds=>obtain ⟨xs,e,t⟩:=h3; rw [hu] at e; cases e; exact .lst (.inl (.inl qm)) (t.mono gr)
     | dct ds=>obtain ⟨xs,e,t⟩:=h3; rw [hu] at e; cases e; exact .dct qm (t.mono gr)
     | ins C fs=>obtain ⟨dx,xs,e,t⟩:=h3; rw [hu] at e; cases e; exact .ins qm (t.mono gr)
     | at_ b ds=>obtain ⟨eb,xs,e,t⟩:=h3; rw [hu] at e; cases e; subst eb; exact .at_ (.inl (.inl qm)) (t.mono gr)
     | _=>exact h3.elim
    ·obtain ⟨v,q1,q2⟩:=rp1.val i d' (fun z=>by simp at z; exact hi ((hs i).mpr ⟨z.1,by simp [q,z.2]⟩)) e
     exact ⟨v,q1,q2.mono gr⟩
   ·have hi':=(hs i).mp hi
    have hik:i≠k:=fun z=>hi'.2 (by simp [z])
    have hir:i∉r:=fun z=>hi'.2 (by simp [z])
    obtain ⟨b,q1,q2,q3⟩:=rp1.ow i d' (by simp [hi'.1,hir]) e
    refine ⟨b,q1,?_,q3.grow gr fun _ z=>z⟩
    have nb:b≠a:=fun z=>by subst z; exact hik (rp1.dis i k b (by simp [hi'.1,hir]) (by simp [hk.1,hk.2]) q1 h1)
    rw [qr nb]; exact q2
   ·have hi':=(hs i).mp hi
    exact rp1.opn i (by simp [hi'.1]; exact fun z=>hi'.2 (by simp [z]))
   ·have hi':=(hs i).mp hi
    have hj':=(hs j).mp hj
    exact rp1.dis i j b (by simp [hi'.1]; exact fun z=>hi'.2 (by simp [z])) (by simp [hj'.1]; exact fun z=>hj'.2 (by simp [z]))
   ·refine ⟨c1.keep,c1.stay,c1.grow.trans gr,fun b hb=>?_⟩
    by_cases q:b=a
    ·exact .inr (.inr ⟨k,hk.1,by rw [q]; exact h1⟩)
    ·rw [qr q] at hb; exact c1.new b hb
  ·refine ⟨F1,⟨rp1.sub,rp1.len,fun i d hi=>rp1.val i d fun z=>?_,fun i d hi=>rp1.ow i d ?_,fun i hi=>rp1.opn i ?_,fun i j a hi hj=>rp1.dis i j a ?_ ?_⟩,c1⟩
   ·simp at z
    refine hi ((hs i).mpr ⟨z.1,?_⟩)
    simp only [ac,not_or]
    exact ⟨fun q=>hk (by subst q; exact z),z.2⟩
   all_goals
    first
     | (have q:=(hs _).mp hi; simp only [eI,decide_eq_true_eq]; exact ⟨q.1,fun z=>q.2 (by simp [z])⟩)
     | (have q:=(hs _).mp hj; simp only [eI,decide_eq_true_eq]; exact ⟨q.1,fun z=>q.2 (by simp [z])⟩)
theorem OA.sub (h:∀ i∈own',i∈own) (q:OA own' σ b):OA own σ b:=let ⟨i,hi,e⟩:=q; ⟨i,h i hi,e⟩
theorem Nx.drop (drop:List Nat) (hs:∀ i,i∈own'↔i∈own/\i∉drop) (rp:Rep C.K own F H σ ρ):∃ F',Nx C own own' σ F H ρ σ F' H:=by
 obtain ⟨F',rp',c⟩:=Rep.weak drop hs rp
 exact ⟨F',rp',c,fun b q=>.inl (OA.sub (fun i hi=>((hs i).mp hi).1) q),fun _ _=>rfl⟩
noncomputable def vU (own drop:List Nat):List Nat:=own.filter fun i=>decide (i∉drop)
theorem qT {own drop:List Nat} (i:Nat):i∈vU own drop↔i∈own/\i∉drop:=by simp [vU]
theorem VX (drop:List Nat) (h:PSs X sts (tSt C (vU own drop) o2 f)):PSs X sts (tSt C own o2 f):=Je h fun D σ H ⟨F,ρ,rp,h⟩=>by
 obtain ⟨F',n⟩:=Nx.drop (C:=C) drop (fun i=>qT (own:=own) i) rp
 exact ⟨F',ρ,n.rep,h.shift n⟩
noncomputable def sIf (ft:Sl->Out (Bool×Sl)) (f g:Sl->Out (Fl×Sl)):Sl->Out (Fl×Sl):=fun ρ=>(ft ρ).bind fun p=>if p.1=true then f p.2 else g p.2
theorem jq {a b:List Stmt} (hc:PT X c (tT C own ft)) (ha:PSs X a (tSt C own own' f)) (hb:PSs X b (tSt C own own' g)):PS X (.If c a b pos) (tSt C own own' (sIf ft f g)):=by
 refine zM (qeN hc ha hb) fun D σ H ⟨F,ρ,rp,h⟩=>⟨F,ρ,rp,PoS.bindT h fun F1 H1 k ρ1 rp1 c1 h1=>?_⟩
 cases k with
 | true=>exact ⟨F1,ρ1,rp1,h1⟩
 | false=>exact ⟨F1,ρ1,rp1,h1⟩
noncomputable def wx (fe:Sl->Out (D×Sl)):Sl->Out (Fl×Sl):=fun ρ=>(fe ρ).bind fun p=>.ok (.nx,p.2)
theorem jW (he:PE X e (tE C own m fe)) (hs:swapsWith e none pos.line X.env=pure false:=by rfl):PS X (.Expr e pos) (tSt C own own (wx fe)):=by
 refine zM (qbh he hs) fun D σ H ⟨F,ρ,rp,h⟩=>⟨F,ρ,rp,PoS.bindE h fun v F1 H1 d ρ1 rp1 c1 mo1 h1=>h1 σ F1 H1 (.refl rp1)⟩
noncomputable def km (fe:Sl->Out (D×Sl)):Sl->Out (Fl×Sl):=fun ρ=>(fe ρ).bind fun p=>.ok (.rt p.1,p.2)
theorem qbC (he:PE X e (tE C own C.mr fe)) (hio:∀ i∈C.io,i∈own:=by exact wl rfl):PS X (.Return (some e) pos) (tSt C own own' (km fe)):=by
 refine zM (qcX he) fun D σ H ⟨F,ρ,rp,h⟩=>⟨F,ρ,rp,?_⟩
 unfold km at h
 cases q:fe ρ with
 | ok p=>
  rw [q] at h
  obtain ⟨d,ρ1⟩:=p
  exact fun v F1 H1 rp1 c1 mo1=>h v σ F1 H1 rp1.sub (rp1.ioIs hio) c1 (fun _ _=>rfl) mo1
 | exc c=>rw [q] at h; exact h
 | bad=>rw [q] at h; exact h.elim
theorem qu (he:PE X e (tE C own m fe)) (hm:m≠.any:=by decide) (hr:C.mr=.sh:=by rfl) (hio:∀ i∈C.io,i∈own:=by exact wl rfl):PS X (.Return (some e) pos) (tSt C own own' (km fe)):=qbC (by rw [hr]; exact vg he hm) hio
theorem Rep.put (rp:Rep K own F H σ ρ) (hi:i < ρ.length) (is:Is K F v d):Rep K (vU own [i]) F H (σ.set i (some v)) (ρ.set i (some d)) where
 sub:=rp.sub
 len:=by simp [rp.len]
 val:=fun j d' hj e=>by
  by_cases q:j=i
  ·subst q
   rw [aF hi] at e
   cases e
   exact ⟨v,aF (by rw [rp.len]; exact hi),is⟩
  ·rw [ad (aX q)] at e
   obtain ⟨w,h1,h2⟩:=rp.val j d' (fun z=>hj ((qT j).mpr ⟨z,by simp [q]⟩)) e
   exact ⟨w,by rw [ad (aX q)]; exact h1,h2⟩
 ow:=fun j d' hj e=>by
  have hj':=(qT j).mp hj
  have q:j≠i:=fun z=>hj'.2 (by simp [z])
  rw [ad (aX q)] at e
  obtain ⟨a,h1,h2⟩:=rp.ow j d' hj'.1 e
  exact ⟨a,by rw [ad (aX q)]; exact h1,h2⟩
 opn:=fun j hj=>by
  have hj':=(qT j).mp hj
  have q:j≠i:=fun z=>hj'.2 (by simp [z])
  obtain ⟨d',e⟩:=rp.opn j hj'.1
  exact ⟨d',by rw [ad (aX q)]; exact e⟩
 dis:=fun j k a hj hk e1 e2=>by
  have hj':=(qT j).mp hj
  have hk':=(qT k).mp hk
  rw [ad (fun z=>hj'.2 (by simp [z]))] at e1
  rw [ad (fun z=>hk'.2 (by simp [z]))] at e2
  exact rp.dis j k a hj'.1 hk'.1 e1 e2
theorem OA.put (h:OA (vU own [i]) (σ.set i (some v)) b):OA own σ b:=by
 obtain ⟨j,hj,e⟩:=h
 have hj':=(qT j).mp hj
 rw [ad (fun z=>hj'.2 (by simp [z]))] at e
 exact ⟨j,hj'.1,e⟩
noncomputable def wm (i:Nat) (fe:Sl->Out (D×Sl)):Sl->Out (Fl×Sl):=fun ρ=>(fe ρ).bind fun p=>if i < p.2.length then .ok (.nx,p.2.set i (some p.1)) else .bad
theorem jb (hN:X.N.Nodup) (hi:X.N[i]?=some x) (hx:Loc X.env.scope x) (he:PE X e (tE C own m fe)) (hm:m≠.any:=by decide) (hio:i∉C.io:=by exact uo rfl) (hs:swapsWith e (some (.Name x pos')) pos.line X.env=pure false:=by rfl)
  (hf:X.fn x=true\/X.env.scope.names.lookup x=some .local:=by first | exact .inl rfl | exact .inr rfl):PS X (.Assign [.Name x pos'] e pos) (tSt C own (vU own [i]) (wm i fe)):=by
 refine zM (qat hN hi hx (vg he hm) hs hf) fun D σ H ⟨F,ρ,rp,h⟩=>⟨F,ρ,rp,PoS.bindE h fun v F1 H1 d ρ1 rp1 c1 mo1 h1=>?_⟩
 by_cases q:i < ρ1.length
 ·have h1:PoS C own (vU own [i]) σ F1 H1 (if i < ρ1.length then .ok (.nx,ρ1.set i (some d)) else .bad) D:=h1
  rw [if_pos q] at h1
  exact h1 _ F1 H1 ⟨rp1.put q mo1,.refl,fun b z=>.inl (OA.put z),fun j hj=>ad fun z=>hio (by rw [z]; exact hj)⟩
 ·have h1:PoS C own (vU own [i]) σ F1 H1 (if i < ρ1.length then .ok (.nx,ρ1.set i (some d)) else .bad) D:=h1
  rw [if_neg q] at h1
  exact h1.elim
theorem Rep.putO (rp:Rep K own F H σ ρ) (hi:i < ρ.length) (hF:F a=none) (nA:¬OA own σ a) (o:OwnIs K F H a d):Rep K (i::vU own [i]) F H (σ.set i (some (.ref a))) (ρ.set i (some d)) where
 sub:=rp.sub
 len:=by simp [rp.len]
 val:=fun j d' hj e=>by
  have q:j≠i:=fun z=>hj (by simp [z])
  rw [ad (aX q)] at e
  obtain ⟨w,h1,h2⟩:=rp.val j d' (fun z=>hj (af _ ((qT j).mpr ⟨z,by simp [q]⟩))) e
  exact ⟨w,by rw [ad (aX q)]; exact h1,h2⟩
 ow:=fun j d' hj e=>by
  by_cases q:j=i
  ·subst q
   rw [aF hi] at e
   cases e
   exact ⟨a,aF (by rw [rp.len]; exact hi),hF,o⟩
  ·have hj':=(qT j).mp ((ac.mp hj).resolve_left q)
   rw [ad (aX q)] at e
   obtain ⟨b,h1,h2⟩:=rp.ow j d' hj'.1 e
   exact ⟨b,by rw [ad (aX q)]; exact h1,h2⟩
 opn:=fun j hj=>by
  by_cases q:j=i
  ·subst q; exact ⟨d,aF hi⟩
  ·have hj':=(qT j).mp ((ac.mp hj).resolve_left q)
   obtain ⟨d',e⟩:=rp.opn j hj'.1
   exact ⟨d',by rw [ad (aX q)]; exact e⟩
 dis:=fun j k b hj hk e1 e2=>by
  have iσ:i < σ.length:=by rw [rp.len]; exact hi
  by_cases qj:j=i
  ·by_cases qk:k=i
   ·rw [qj,qk]
   ·subst qj
    have hk':=(qT k).mp ((ac.mp hk).resolve_left qk)
    rw [aF iσ] at e1
    cases e1
    rw [ad (aX qk)] at e2
    exact absurd ⟨k,hk'.1,e2⟩ nA
  ·have hj':=(qT j).mp ((ac.mp hj).resolve_left qj)
   by_cases qk:k=i
   ·subst qk
    rw [aF iσ] at e2
    cases e2
    rw [ad (aX qj)] at e1
    exact absurd ⟨j,hj'.1,e1⟩ nA
   ·have hk':=(qT k).mp ((ac.mp hk).resolve_left qk)
    rw [ad (aX qj)] at e1
    rw [ad (aX qk)] at e2
    exact rp.dis j k b hj'.1 hk'.1 e1 e2
theorem uP (hN:X.N.Nodup) (hi:X.N[i]?=some x) (hx:Loc X.env.scope x) (he:PE X e (tE C own .fr fe)) (hio:i∉C.io:=by exact uo rfl) (hs:swapsWith e (some (.Name x pos')) pos.line X.env=pure false:=by rfl)
  (hf:X.fn x=true\/X.env.scope.names.lookup x=some .local:=by first | exact .inl rfl | exact .inr rfl):PS X (.Assign [.Name x pos'] e pos) (tSt C own (i::vU own [i]) (wm i fe)):=by
 refine zM (qat hN hi hx he hs hf) fun D σ H ⟨F,ρ,rp,h⟩=>⟨F,ρ,rp,?_⟩
 unfold wm at h
 cases q:fe ρ with
 | ok p=>
  rw [q] at h
  obtain ⟨d,ρ1⟩:=p
  intro v F1 H1 rp1 c1 mo1
  obtain ⟨a,rfl,h0,hF,o⟩:=mo1
  by_cases z:i < ρ1.length
  ·have h1:PoS C own (i::vU own [i]) σ F H (if i < ρ1.length then .ok (.nx,ρ1.set i (some d)) else .bad) D:=h
   rw [if_pos z] at h1
   refine h1 _ F1 H1 ⟨rp1.putO z hF (fun y=>(rp.OA_there y).1 h0) o,c1,fun b y=>?_,fun j hj=>ad fun y=>hio (by rw [y]; exact hj)⟩
   obtain ⟨j,hj,e⟩:=y
   by_cases qj:j=i
   ·subst qj
    rw [aF (by rw [rp1.len]; exact z)] at e
    cases e
    exact .inr h0
   ·have hj':=(qT j).mp ((ac.mp hj).resolve_left qj)
    rw [ad (aX qj)] at e
    exact .inl ⟨j,hj'.1,e⟩
  ·have h1:PoS C own (i::vU own [i]) σ F H (if i < ρ1.length then .ok (.nx,ρ1.set i (some d)) else .bad) D:=h
   rw [if_neg z] at h1
   exact h1.elim
 | exc c=>rw [q] at h; exact h
 | bad=>rw [q] at h; exact h.elim
end
inductive AK where
 | vl | sl (i:Nat) | fr
 deriving DecidableEq
def ArgV (K:Frag) (H0 F H:Hp) (σ:St):List AK->List V->List D->Prop
 | [],[],[]=>True
 | .vl::as,v::vs,d::ds=>Is K F v d/\ArgV K H0 F H σ as vs ds
 | .sl i::as,v::vs,d::ds=>σ[i]?=some (some v)/\d=.non/\ArgV K H0 F H σ as vs ds
 | .fr::as,v::vs,d::ds=>MoIs K .fr H0 F H v d/\ArgV K H0 F H σ as vs ds
 | _,_,_=>False
variable {H0 F' H':Hp}
theorem ArgV.grow {A:Addr->Prop} (c:Chg A F H F' H') (hA:∀ x,A x->H0 x≠none):∀ {as:List AK} {vs:List V} {ds:List D},ArgV K H0 F H σ as vs ds->ArgV K H0 F' H' σ as vs ds
 | [],[],[],h=>trivial
 | .vl::as,v::vs,d::ds,h=>⟨h.1.mono c.grow,ArgV.grow c hA h.2⟩
 | .sl i::as,v::vs,d::ds,h=>⟨h.1,h.2.1,ArgV.grow c hA h.2.2⟩
 | .fr::as,v::vs,d::ds,h=>⟨h.1.grow (by decide) c hA,ArgV.grow c hA h.2⟩
 | [],_::_,_,h=>h.elim
 | [],[],_::_,h=>h.elim
 | .vl::_,[],_,h=>h.elim
 | .vl::_,_::_,[],h=>h.elim
 | .sl _::_,[],_,h=>h.elim
 | .sl _::_,_::_,[],h=>h.elim
 | .fr::_,[],_,h=>h.elim
 | .fr::_,_::_,[],h=>h.elim
theorem ArgV.back {A:Addr->Prop} {F0:Hp} (c:Chg A F0 H0 F1 H1):∀ {as:List AK} {vs:List V} {ds:List D},ArgV K H1 F H σ as vs ds->ArgV K H0 F H σ as vs ds
 | [],[],[],h=>trivial
 | .vl::as,v::vs,d::ds,h=>⟨h.1,ArgV.back c h.2⟩
 | .sl i::as,v::vs,d::ds,h=>⟨h.1,h.2.1,ArgV.back c h.2.2⟩
 | .fr::as,v::vs,d::ds,h=>⟨MoIs.back (Ha:=H1) c h.1,ArgV.back c h.2⟩
 | [],_::_,_,h=>h.elim
 | [],[],_::_,h=>h.elim
 | .vl::_,[],_,h=>h.elim
 | .vl::_,_::_,[],h=>h.elim
 | .sl _::_,[],_,h=>h.elim
 | .sl _::_,_::_,[],h=>h.elim
 | .fr::_,[],_,h=>h.elim
 | .fr::_,_::_,[],h=>h.elim
def PoA (C:Ct) (own:List Nat) (as:List AK) (σ:St) (F H:Hp) (r:Out (List D×Sl)) (Q:List V->Hp->Prop):Prop:=match r with
 | .ok (ds,ρ')=>∀ vs F' H',Rep C.K own F' H' σ ρ'->Chg (OA own σ) F H F' H'->ArgV C.K H F' H' σ as vs ds->Q vs H'
 | .exc c ρ'=>∀ F' H',Same F' H'->UA C.K C.ox F' H' σ ρ'->Chg (OA own σ) F H F' H'->C.E (C.cv c) none H'
 | .bad=>False
def tAr (C:Ct) (own:List Nat) (as:List AK) (f:Sl->Out (List D×Sl)):TA:=fun σ H Q=>∃ F ρ,Rep C.K own F H σ ρ/\PoA C own as σ F H (f ρ) Q
variable {as:List AK}
theorem PoA.bindV {ma:Mo} {k:D×Sl->Out (List D×Sl)} {Q:List V->Hp->Prop} {R:VK} (hp:PoA C own as σ F H (o.bind k) Q)
  (h:∀ v F1 H1 d ρ1,Rep C.K own F1 H1 σ ρ1->Chg (OA own σ) F H F1 H1->MoIs C.K ma H F1 H1 v d->PoA C own as σ F H (k (d,ρ1)) Q->R v H1):Po C own ma σ F H o R:=by
 cases o with
 | ok p=>
  obtain ⟨d,ρ1⟩:=p
  exact fun v F1 H1 rp c mo=>h v F1 H1 d ρ1 rp c mo hp
 | exc x=>exact hp
 | bad=>exact hp.elim
theorem Po.bindA {as:List AK} {o:Out (List D×Sl)} {k:List D×Sl->Out (D×Sl)} {Q:VK} {R:List V->Hp->Prop} (hp:Po C own m σ F H (o.bind k) Q)
  (h:∀ vs F1 H1 ds ρ1,Rep C.K own F1 H1 σ ρ1->Chg (OA own σ) F H F1 H1->ArgV C.K H F1 H1 σ as vs ds->Po C own m σ F1 H1 (k (ds,ρ1)) Q->R vs H1):PoA C own as σ F H o R:=by
 cases o with
 | ok p=>
  obtain ⟨d,ρ1⟩:=p
  exact fun vs F1 H1 rp c av=>h vs F1 H1 d ρ1 rp c av (Po.shift (show Po C own m σ F H (k (d,ρ1)) Q from hp) c)
 | exc x=>exact hp
 | bad=>exact hp.elim
noncomputable def qF:Sl->Out (List D×Sl):=fun ρ=>.ok ([],ρ)
noncomputable def qe (fe:Sl->Out (D×Sl)) (fr:Sl->Out (List D×Sl)):Sl->Out (List D×Sl):=fun ρ=>(fe ρ).bind fun p=>(fr p.2).bind fun q=>.ok (p.1::q.1,q.2)
noncomputable def kE (fr:Sl->Out (List D×Sl)):Sl->Out (List D×Sl):=fun ρ=>(fr ρ).bind fun q=>.ok (D.non::q.1,q.2)
variable {es:List Expr} {p:Addr} {u:HO}
section
variable {fr:Sl->Out (List D×Sl)}
theorem qbD {t t':TA} (h:PA X es t) (i:∀ σ H Q,t' σ H Q->t σ H Q):PA X es t':=⟨fun pos pins s σ H Q I hw=>h pos pins s σ H Q I (i σ H Q hw)⟩
theorem ql:PA X [] (tAr C own [] qF):=qbD jZ fun σ H Q ⟨F,ρ,rp,h⟩=>h [] F H rp .refl trivial
theorem Jf {a:AK} {Q:List V->Hp->Prop} {v:V} (rp:∀ x,OA own σ x->H x≠none) (rp1:Rep C.K own F1 H1 σ ρ1) (c1:Chg (OA own σ) F H F1 H1) (hp:PoA C own (a::as) σ F H ((fr ρ1).bind fun q=>.ok (d::q.1,q.2)) Q)
  (ha:∀ F2 H2 vs ds,Chg (OA own σ) F1 H1 F2 H2->ArgV C.K H F2 H2 σ as vs ds->ArgV C.K H F2 H2 σ (a::as) (v::vs) (d::ds)):tAr C own as fr σ H1 fun xs H2=>Q (v::xs) H2:=by
 refine ⟨F1,ρ1,rp1,?_⟩
 cases q:fr ρ1 with
 | ok p=>
  rw [q] at hp
  obtain ⟨ds,ρ2⟩:=p
  exact fun vs F2 H2 rp2 c2 av=>hp (v::vs) F2 H2 rp2 (c1.trans' c2) (ha F2 H2 vs ds c2 (ArgV.back c1 av))
 | exc c=>rw [q] at hp; exact fun F' H' s io c'=>hp F' H' s io (c1.trans' c')
 | bad=>rw [q] at hp; exact hp.elim
theorem qc (ha:PE X e (tE C own m fe)) (hr:PA X es (tAr C own as fr)) (hm:m≠.any:=by decide) (hs:starEach (e::es) X.env=(false,eval e X.env)::starEach es X.env:=by exact jk rfl):PA X (e::es) (tAr C own (.vl::as) (qe fe fr)):=by
 refine qbD (qV (vg ha hm) hr hs) fun σ H Q ⟨F,ρ,rp,h⟩=>⟨F,ρ,rp,PoA.bindV h fun v F1 H1 d ρ1 rp1 c1 mo1 h1=>?_⟩
 exact Jf (fun x z=>(rp.OA_there z).1) rp1 c1 h1 fun F2 H2 vs ds c2 av=>⟨Is.mono c2.grow mo1,av⟩
theorem qX {px:Pos} (hN:X.N[i]?=some x) (hv:Vis X.env.scope x) (ho:i∈own) (hr:PA X es (tAr C own as fr)) (hs:starEach (.Name x px::es) X.env=(false,eval (.Name x px) X.env)::starEach es X.env:=by rfl)
  (hd:(x == ("__debug__":Str))=false:=by decide) (hcd:(x == ("__classdict__":Str))=false:=by decide):PA X (.Name x px::es) (tAr C own (.sl i::as) (kE fr)):=by
 refine qbD (qV (vm hN hv hd hcd) hr hs) fun σ H Q ⟨F,ρ,rp,h⟩=>?_
 obtain ⟨d,hd⟩:=rp.opn i ho
 obtain ⟨a,h1,h2,h3⟩:=rp.ow i d ho hd
 exact ⟨_,h1,Jf (fun x z=>(rp.OA_there z).1) rp .refl h fun F2 H2 vs ds c2 av=>⟨h1,rfl,av⟩⟩
theorem ArgV.isL:∀ {as:List AK} {vs:List V} {ds:List D},(as.all fun a=>decide (a=.vl))=true->ArgV K H0 F H σ as vs ds->IsL K F vs ds
 | [],[],[],_,_=>.nil
 | .vl::as,v::vs,d::ds,h,a=>.cons a.1 (ArgV.isL (by simpa using h) a.2)
 | .sl i::as,_,_,h,a=>by simp at h
 | .fr::as,_,_,h,a=>by simp at h
 | [],_::_,_,_,h=>h.elim
 | [],[],_::_,_,h=>h.elim
 | .vl::_,[],_,_,h=>h.elim
 | .vl::_,_::_,[],_,h=>h.elim
noncomputable def yk (fr:Sl->Out (List D×Sl)):Sl->Out (D×Sl):=fun ρ=>(fr ρ).bind fun p=>if p.1.length<=sizeLine then .ok (.tup p.1,p.2) else .bad
noncomputable def xM (fr:Sl->Out (List D×Sl)):Sl->Out (D×Sl):=fun ρ=>(fr ρ).bind fun p=>if p.1.length<=sizeLine then .ok (.lst p.1,p.2) else .bad
theorem qdo (rp:Rep C.K own F H σ ρ) (hp:H p=none):Rep C.K own (upd F p u) (upd H p u) σ ρ/\Chg No F H (upd F p u) (upd H p u):=by
 have hF:F p=none:=by
  cases q:F p with
  | none=>rfl
  | some o=>rw [rp.sub p o q] at hp; cases hp
 have c:Chg No F H (upd F p u) (upd H p u):=⟨fun b o e _=>by rw [qr (qx e hp)]; exact e,fun b e=>by
  by_cases q:b=p
  ·rw [q,qm]; simp
  ·rw [qr q]; exact e,fun b o e=>by rw [qr (qx e hF)]; exact e,fun b e=>by
  by_cases q:b=p
  ·exact .inr (.inl (by rw [q]; exact hp))
  ·rw [qr q] at e; exact .inl e⟩
 refine ⟨rp.grow c fun b o e=>?_,c⟩
 by_cases q:b=p
 ·subst q; rw [qm] at e ⊢; exact e
 ·rw [qr q] at e ⊢; exact rp.sub b o e
theorem qaC (rp:Rep C.K own F H σ ρ) (hp:H p=none):Rep C.K own F (upd H p u) σ ρ/\Chg No F H F (upd H p u)/\F p=none:=by
 have hF:F p=none:=by
  cases q:F p with
  | none=>rfl
  | some o=>rw [rp.sub p o q] at hp; cases hp
 have c:Chg No F H F (upd H p u):=⟨fun b o e _=>by rw [qr (qx e hp)]; exact e,fun b e=>by
  by_cases q:b=p
  ·rw [q,qm]; simp
  ·rw [qr q]; exact e,Same.refl _,fun b e=>.inl e⟩
 exact ⟨rp.grow c fun b o e=>by rw [qr (qx e hF)]; exact rp.sub b o e,c,hF⟩
theorem kT {x1} (h:PA X es (tAr C own as fr)) (ha:(as.all fun a=>decide (a=.vl))=true:=by decide):PE X (.Tuple es x1 pos) (tE C own .sh (yk fr)):=by
 refine jd (qda h) fun σ H Q ⟨F,ρ,rp,h⟩=>⟨F,ρ,rp,Po.bindA h fun vs F1 H1 ds ρ1 rp1 c1 av h1=>?_⟩
 have il:=av.isL ha
 have h1:Po C own .sh σ F1 H1 (if ds.length<=sizeLine then .ok (.tup ds,ρ1) else .bad) Q:=h1
 by_cases z:ds.length<=sizeLine
 ·rw [if_pos z] at h1
  refine ⟨by rw [il.length]; exact z,fun p hp=>?_⟩
  obtain ⟨rp2,c2⟩:=qdo (u:=.tup vs) rp1 hp
  exact h1 _ _ _ rp2 c2.ofNo (.tup (.inl (.inl qm)) (il.mono c2.grow))
 ·rw [if_neg z] at h1; exact h1.elim
theorem vn (h:PA X es (tAr C own as fr)) (ha:(as.all fun a=>decide (a=.vl))=true:=by decide):PE X (.List es pos) (tE C own .fr (xM fr)):=by
 refine jd (qdb h) fun σ H Q ⟨F,ρ,rp,h⟩=>⟨F,ρ,rp,Po.bindA h fun vs F1 H1 ds ρ1 rp1 c1 av h1=>?_⟩
 have il:=av.isL ha
 have h1:Po C own .fr σ F1 H1 (if ds.length<=sizeLine then .ok (.lst ds,ρ1) else .bad) Q:=h1
 by_cases z:ds.length<=sizeLine
 ·rw [if_pos z] at h1
  refine ⟨by rw [il.length]; exact z,fun p hp=>?_⟩
  obtain ⟨rp2,c2,hF⟩:=qaC (u:=.lst vs) rp1 hp
  exact h1 _ _ _ rp2 c2.ofNo ⟨p,rfl,hp,hF,vs,qm,il⟩
 ·rw [if_neg z] at h1; exact h1.elim
noncomputable def ixD:D->D->Out D
 | .lst xs,.int i=>match atI xs i with
  | some d=>.ok d
  | none=>.bad
 | .tup xs,.int i=>match atI xs i with
  | some d=>.ok d
  | none=>.bad
 | .str x,.int i=>match atI x.cps.toList i with
  | some c=>.ok (.str ⟨#[c]⟩)
  | none=>.bad
 | .dct kvs,.str x=>match (kvs.find? fun kv=>decide (kv.1=dJ x)) with
  | some kv=>.ok kv.2
  | none=>.bad
 | .dct kvs,.int x=>match (kvs.find? fun kv=>decide (kv.1=eE x)) with
  | some kv=>.ok kv.2
  | none=>.bad
 | _,_=>.bad
theorem IsL.atI {i:Int} (h:IsL K F vs ds) (e:L2.atI ds i=some d):∃ v,L2.atI vs i=some v/\Is K F v d:=by
 unfold L2.atI at e ⊢
 rw [h.length]
 cases q:ixN ds.length i with
 | none=>rw [q] at e; cases e
 | some j=>
  rw [q] at e
  exact h.getD e
theorem IsK.find {k:Key}:∀ {vs:List (Key×V)} {ds:List (Key×D)} {d:Key×D},IsK K F vs ds->(ds.find? fun kv=>decide (kv.1=k))=some d->∃ v,VN vs k=some v/\Is K F v d.2
 | _,_,_,.nil,e=>by simp at e
 | _,_,d,.cons (k:=k') (vs:=vs) h t,e=>by
  by_cases q:k'=k
  ·rw [List.find?_cons_of_pos (by simp [q])] at e
   cases e
   exact ⟨_,xj q,h⟩
  ·rw [List.find?_cons_of_neg (by simp [q])] at e
   obtain ⟨v,h1,h2⟩:=IsK.find t e
   exact ⟨v,by rw [xl q]; exact h1,h2⟩
theorem VY (c:Nat):(⟨#[c]⟩:Str).length<=sizeLine:=by
 show 1<=sizeLine
 rw [sizeLine_eq]; decide
def qfI (K:Frag):R2:=fun x y H Q=>rIx K x y H Q\/∃ a v,x=.ref a/\DGet H a y (some v)/\Q v H
theorem qaD (hu:X.A.units+1 < cLine):IxR X (qfI X.K):=by
 refine IxR.or qdf ?_
 intro value slice pins s σ H x y v u Q I rx ry h hs
 obtain ⟨a,w,rfl,g,q⟩:=h
 cases rx
 obtain ⟨T,ht⟩:∃ T,s.TypeIs (.ref a) T/\T = "dict":=⟨_,Kt I g,rfl⟩
 obtain ⟨ht,rfl⟩:=ht
 exact tail_any ht PySem.slot_dict_getitem.lookup (Yb hu I g ry fun w' s' I' r=>⟨w,H,I',r,q⟩) hs
end
variable {T:String}
section
variable {a b:Expr} {fb:Sl->Out (D×Sl)}
theorem qaE {σ:St} {x y:V} {dx dy:D} {Q:VK} (hK:C.K=X.K) (sb:Same F H) (tx:TopIs C.K F H x dx) (ty:TopIs C.K F H y dy) (po:PoV C .sh F H (ixD dx dy) Q):qfI X.K x y H Q:=by
 rw [hK] at tx ty
 cases dx with
 | lst xs=>
  cases dy <;> try exact po.elim
  rename_i i
  obtain rfl:=ty.int
  obtain ⟨a,vs,rfl,p,t⟩:=tx.lst sb
  unfold ixD at po
  cases e:L2.atI xs i with
  | none=>simp only [e] at po; exact po.elim
  | some d=>
   simp only [e] at po
   obtain ⟨v,h1,h2⟩:=t.atI e
   exact .inl (.inl ⟨a,vs,i,v,rfl,rfl,p,h1,po v F H sb .refl (by rw [hK]; exact h2)⟩)
 | tup xs=>
  cases dy <;> try exact po.elim
  rename_i i
  obtain rfl:=ty.int
  obtain ⟨a,vs,rfl,p,t⟩:=tx.tup sb
  unfold ixD at po
  cases e:L2.atI xs i with
  | none=>simp only [e] at po; exact po.elim
  | some d=>
   simp only [e] at po
   obtain ⟨v,h1,h2⟩:=t.atI e
   exact .inl (.inr (.inl ⟨a,vs,i,v,rfl,rfl,p,h1,po v F H sb .refl (by rw [hK]; exact h2)⟩))
 | str z=>
  cases dy <;> try exact po.elim
  rename_i i
  obtain rfl:=ty.int
  obtain ⟨rfl,hz⟩:=tx.str
  unfold ixD at po
  cases e:L2.atI z.cps.toList i with
  | none=>simp only [e] at po; exact po.elim
  | some c=>
   simp only [e] at po
   exact .inl (.inr (.inr ⟨z,i,c,rfl,rfl,hz,e,po _ F H sb .refl (.str (VY c))⟩))
 | dct kvs=>
  obtain ⟨a,kv,rfl,p,t⟩:=tx.dct sb
  cases dy with
  | int i=>
   obtain rfl:=ty.int
   unfold ixD at po
   cases e:(kvs.find? fun kv=>decide (kv.1=eE i)) with
   | none=>simp only [e] at po; exact po.elim
   | some d=>
    simp only [e] at po
    obtain ⟨v,h1,h2⟩:=t.find e
    exact .inr ⟨a,v,rfl,by rw [<-h1]; exact DGet.k (k:=eE i) p,po v F H sb .refl (by rw [hK]; exact h2)⟩
  | str z=>
   obtain ⟨rfl,_⟩:=ty.str
   unfold ixD at po
   cases e:(kvs.find? fun kv=>decide (kv.1=dJ z)) with
   | none=>simp only [e] at po; exact po.elim
   | some d=>
    simp only [e] at po
    obtain ⟨v,h1,h2⟩:=t.find e
    exact .inr ⟨a,v,rfl,by rw [<-h1]; exact DGet.k (k:=dJ z) p,po v F H sb .refl (by rw [hK]; exact h2)⟩
  | _=>exact po.elim
 | _=>exact po.elim
theorem ka (hK:C.K=X.K) (hu:X.A.units+64 < cLine) (ha:PE X a (tE C own ma fa)) (hb:PE X b (tE C own mb fb)) (hs:Kq b) (hma:ma≠.any:=by decide):PE X (.Subscript a b pos) (tE C own .sh (d2 ixD fa fb)):=by
 refine jd (qdd (qaD (by omega)) ha hb hs) fun σ H Q h=>?_
 obtain ⟨F,ρ,rp,h⟩:=QW (mb:=mb) hma h
 refine ⟨F,ρ,rp,?_⟩
 cases q:fa ρ with
 | ok p=>
  rw [q] at h
  obtain ⟨d,ρ1⟩:=p
  intro v F1 H1 rp1 c1 mo1
  obtain ⟨F2,ρ2,rp2,h2⟩:=h v F1 H1 rp1 c1 mo1
  refine ⟨F2,ρ2,rp2,?_⟩
  cases q2:fb ρ2 with
  | ok p=>
   rw [q2] at h2
   obtain ⟨d',ρ3⟩:=p
   intro w F3 H3 rp3 c3 mo3
   obtain ⟨F4,dx,dy,sb,tx,ty,po⟩:=h2 w F3 H3 rp3 c3 mo3
   exact qaE (σ:=σ) hK sb tx ty po
  | exc c=>rw [q2] at h2; exact h2
  | bad=>rw [q2] at h2; exact h2.elim
 | exc c=>rw [q] at h; exact h
 | bad=>rw [q] at h; exact h.elim
def Jg (X:Cx) (C:Ct) (m:Mo) (f:Value) (g:D->Out D):Prop:=um X f (fun xs H Q=>∃ x F dx,xs=[x]/\Same F H/\TopIs C.K F H x dx/\PoV C m F H (g dx) Q)
theorem xN {Q:VK} {g:D->Out D} (h:tE C own m (d1 g fa) σ H Q):ZK (tE C own ma fa) qeu σ H fun xs H1=>∃ x F dx,xs=[x]/\Same F H1/\TopIs C.K F H1 x dx/\PoV C m F H1 (g dx) Q:=by
 obtain ⟨F,ρ,rp,h⟩:=Yd (ma:=ma) h
 refine ⟨F,ρ,rp,?_⟩
 cases q:fa ρ with
 | ok p=>
  rw [q] at h
  obtain ⟨d,ρ1⟩:=p
  intro v F1 H1 rp1 c1 mo1
  obtain ⟨F2,dx,sb,tx,po⟩:=h v F1 H1 rp1 c1 mo1
  exact ⟨v,F2,dx,rfl,sb,tx,po⟩
 | exc c=>rw [q] at h; exact h
 | bad=>rw [q] at h; exact h.elim
theorem qE {id:String} {p:Pos} {g:D->Out D} (hc:Jg X C m (.builtin id) g) (hg:Gl X x) (hm:X.mg x=none) (hv:bootBuiltins x=some (.builtin id)) (ha:PE X e (tE C own ma fa)) (hn:x ≠ "__name__":=by decide) (hdb:(x == ("__debug__":Str))=false:=by decide)
  (he:starEach [e] X.env=[(false,eval e X.env)]:=by exact qO rfl):PE X (.Call (.Name x p) [e] [] pos) (tE C own m (d1 g fa)):=
 jd (wW hc hg hm hv (qV ha jZ he) hn hdb (by rw [he]; rfl) rfl) fun _ _ _ h=>xN h
theorem kn {p:Pos} {g:D->Out D} (hc:Jg X C m (.type T) g) (hg:Gl X x) (hm:X.mg x=none) (hv:bootBuiltins x=some (.type T)) (ha:PE X e (tE C own ma fa)) (hn:x ≠ "__name__":=by decide) (hdb:(x == ("__debug__":Str))=false:=by decide)
  (he:starEach [e] X.env=[(false,eval e X.env)]:=by exact qO rfl):PE X (.Call (.Name x p) [e] [] pos) (tE C own m (d1 g fa)):=
 jd (uK hc hg hm hv (qV ha jZ he) hn hdb (by rw [he]; rfl) rfl) fun _ _ _ h=>xN h
noncomputable def kG:D->Out D
 | .str x=>.ok (.int x.length)
 | .lst xs=>.ok (.int xs.length)
 | .tup xs=>.ok (.int xs.length)
 | .dct xs=>.ok (.int xs.length)
 | _=>.bad
theorem IsK.length:∀ {vs:List (Key×V)} {ds:List (Key×D)},IsK K F vs ds->vs.length=ds.length
 | _,_,.nil=>rfl
 | _,_,.cons _ t=>congrArg (·+1) (IsK.length t)
theorem jM (hK:C.K=X.K):Jg X C .sh (.builtin "len") kG:=by
 intro pins s σ H xs us Q I r h
 obtain ⟨x,F,dx,rfl,sb,tx,po⟩:=h
 cases dx with
 | str z=>
  obtain ⟨rfl,hz⟩:=tx.str
  exact gJ pins s σ H _ us Q I r ⟨_,_,rfl,⟨hz,rfl⟩,po _ F H sb .refl (.int _)⟩
 | lst ds=>
  obtain ⟨a,vs,rfl,p,t⟩:=tx.lst sb
  exact gJ pins s σ H _ us Q I r ⟨_,ds.length,rfl,.inl ⟨vs,by rw [<-hK]; exact p,t.length.symm⟩,po _ F H sb .refl (.int _)⟩
 | tup ds=>
  obtain ⟨a,vs,rfl,p,t⟩:=tx.tup sb
  exact gJ pins s σ H _ us Q I r ⟨_,ds.length,rfl,.inr ⟨vs,by rw [<-hK]; exact p,t.length.symm⟩,po _ F H sb .refl (.int _)⟩
 | dct ds=>
  obtain ⟨a,vs,rfl,p,t⟩:=tx.dct sb
  refine Yc pins s σ H _ us Q I r ⟨a,vs,rfl,p,?_⟩
  rw [t.length]
  exact po _ F H sb .refl (.int _)
 | _=>exact po.elim
noncomputable def vD:D->D->Out D
 | .int i,.int j=>.ok (.int (i+j))
 | .str x,.str y=>if x.length+y.length<=sizeLine then .ok (.str (x++y)) else .bad
 | .lst xs,.lst ys=>if xs.length+ys.length<=sizeLine then .ok (.lst (xs++ys)) else .bad
 | .tup xs,.tup ys=>if xs.length+ys.length<=sizeLine then .ok (.tup (xs++ys)) else .bad
 | _,_=>.bad
theorem uB (sb:Same F H) (hp:H p=none):Same (upd F p u) (upd H p u)/\Chg No F H (upd F p u) (upd H p u):=by
 have hF:F p=none:=by
  cases q:F p with
  | none=>rfl
  | some o=>rw [sb p o q] at hp; cases hp
 refine ⟨fun b o e=>?_,⟨fun b o e _=>by rw [qr (qx e hp)]; exact e,fun b e=>?_,fun b o e=>by rw [qr (qx e hF)]; exact e,fun b e=>?_⟩⟩
 ·by_cases q:b=p
  ·subst q; rw [qm] at e ⊢; exact e
  ·rw [qr q] at e ⊢; exact sb b o e
 ·by_cases q:b=p
  ·rw [q,qm]; simp
  ·rw [qr q]; exact e
 ·by_cases q:b=p
  ·exact .inr (.inl (by rw [q]; exact hp))
  ·rw [qr q] at e; exact .inl e
theorem wy (sb:Same F H) (hp:H p=none):Same F (upd H p u)/\Chg No F H F (upd H p u)/\F p=none:=by
 have hF:F p=none:=by
  cases q:F p with
  | none=>rfl
  | some o=>rw [sb p o q] at hp; cases hp
 refine ⟨fun b o e=>by rw [qr (qx e hF)]; exact sb b o e,⟨fun b o e _=>by rw [qr (qx e hp)]; exact e,fun b e=>?_,Same.refl _,fun b e=>.inl e⟩,hF⟩
 by_cases q:b=p
 ·rw [q,qm]; simp
 ·rw [qr q]; exact e
theorem Kw (x y:Str):(x++y).length=x.length+y.length:=by
 show (x.cps++y.cps).size=_
 simp [fE]
theorem qbE:OpR X (binaryOp .Add) (fun x y H Q=>∃ l b xs zs,x=.ref l/\y=.ref b/\SqL X.K H l xs/\SqL X.K H b zs/\xs.length+zs.length<=sizeLine/\∀ p,H p=none->Q (.ref p) (upd H p (.lst (xs++zs)))):=by
 intro pins s σ H x y v u Q I rx ry h
 obtain ⟨l,b,xs,zs,rfl,rfl,h1,h2,hz,q⟩:=h
 cases rx
 cases ry
 obtain ⟨its,r1,p1,_⟩:=I.list h1
 obtain ⟨its2,r2,p2,_⟩:=I.list h2
 obtain ⟨⟨cls,dd,data,sl⟩,ho,hc,n,hd⟩:=id p1.isList
 obtain ⟨⟨cls2,dd2,data2,sl2⟩,ho2,hc2,n2,hd2⟩:=id p2.isList
 simp only at hc hd hc2 hd2
 subst hc hd hc2 hd2
 have hl1:=r1.length
 have hl2:=r2.length
 refine concat_meets ⟨_,ho,rfl⟩ ⟨_,ho2,rfl⟩ noFill_list_add seq_list_add PySem.F.slot_list_add PySem.F.entry_list_add (PySem.F.args_list_add_2 _ _)
  (list_addW l b its.toArray its2.toArray n n2 dd dd2 sl sl2 (by simp only [ak]; omega)) ⟨ho,ho2,?_⟩
 have ea:its.toArray++its2.toArray=(its++its2).toArray:=by simp
 rw [ea]
 exact ⟨.ref _,_,I.lnew (t':=s.toks) (r1.append r2) (by rw [am]; exact hz),rfl,q _ I.fresh⟩
theorem qbF:OpR X (binaryOp .Add) (fun x y H Q=>∃ a b ys,x=.ref a/\y=.ref b/\SqT X.K H a []/\SqT X.K H b ys/\Q (.ref b) H):=by
 intro pins s σ H x y v u Q I rx ry h
 obtain ⟨a,b,ys,rfl,rfl,h1,h2,q⟩:=h
 cases rx
 cases ry
 obtain ⟨its,r1,p1,_⟩:=I.tuple h1
 obtain ⟨its2,r2,p2,_⟩:=I.tuple h2
 cases r1
 obtain ⟨⟨cls,dd,data,sl⟩,ho,hc,n,hd⟩:=id p1
 obtain ⟨⟨cls2,dd2,data2,sl2⟩,ho2,hc2,n2,hd2⟩:=id p2
 simp only at hc hd hc2 hd2
 subst hc hd hc2 hd2
 exact concat_meets ⟨_,ho,rfl⟩ ⟨_,ho2,rfl⟩ noFill_tuple_add seq_tuple_add dZ dS (dG _ _)
  (tuple_addW0 a b _ _ n n2 dd dd2 sl sl2 rfl) ⟨ho,ho2,⟨.ref b,H,I,rfl,q⟩⟩
theorem ko (hK:C.K=X.K):OpD X C .sh (binaryOp .Add) vD:=by
 intro pins s σ H x y v u Q I rx ry h
 obtain ⟨F,dx,dy,sb,tx,ty,po⟩:=h
 cases dx with
 | int i=>
  cases dy <;> try exact po.elim
  obtain rfl:=tx.int
  obtain rfl:=ty.int
  exact qc2 pins s σ H _ _ v u Q I rx ry ⟨_,_,rfl,rfl,po _ F H sb .refl (.int _)⟩
 | str a=>
  cases dy <;> try exact po.elim
  rename_i b
  obtain ⟨rfl,_⟩:=tx.str
  obtain ⟨rfl,_⟩:=ty.str
  have po:PoV C .sh F H (if a.length+b.length<=sizeLine then .ok (.str (a++b)) else .bad) Q:=po
  by_cases z:a.length+b.length<=sizeLine
  ·rw [if_pos z] at po
   exact WU pins s σ H _ _ v u Q I rx ry ⟨_,_,rfl,rfl,z,po _ F H sb .refl (.str (by rw [Kw]; exact z))⟩
  ·rw [if_neg z] at po; exact po.elim
 | lst xs=>
  cases dy <;> try exact po.elim
  rename_i ys
  obtain ⟨a,vs,rfl,p1,t1⟩:=tx.lst sb
  obtain ⟨b,ws,rfl,p2,t2⟩:=ty.lst sb
  have po:PoV C .sh F H (if xs.length+ys.length<=sizeLine then .ok (.lst (xs++ys)) else .bad) Q:=po
  by_cases z:xs.length+ys.length<=sizeLine
  ·rw [if_pos z] at po
   refine qbE pins s σ H _ _ v u Q I rx ry ⟨a,b,vs,ws,rfl,rfl,by rw [<-hK]; exact p1,by rw [<-hK]; exact p2,by rw [t1.length,t2.length]; exact z,fun p hp=>?_⟩
   obtain ⟨s2,c2⟩:=uB (u:=.lst (vs++ws)) sb hp
   exact po _ _ _ s2 c2 (.lst (.inl (.inl qm)) ((t1.append t2).mono c2.grow))
  ·rw [if_neg z] at po; exact po.elim
 | tup xs=>
  cases dy <;> try exact po.elim
  rename_i ys
  obtain ⟨a,vs,rfl,p1,t1⟩:=tx.tup sb
  obtain ⟨b,ws,rfl,p2,t2⟩:=ty.tup sb
  have po:PoV C .sh F H (if xs.length+ys.length<=sizeLine then .ok (.tup (xs++ys)) else .bad) Q:=po
  by_cases z:xs.length+ys.length<=sizeLine
  ·rw [if_pos z] at po
   cases vs with
   | nil=>
    cases t1
    rcases ty with ty | ⟨_,_,ty⟩
    ·exact qbF pins s σ H _ _ v u Q I rx ry ⟨a,b,ws,rfl,rfl,by rw [<-hK]; exact p1,by rw [<-hK]; exact p2,po _ F H sb .refl ty⟩
    ·exact ty.elim
   | cons v0 vs=>
    refine qbt pins s σ H _ _ v u Q I rx ry ⟨a,b,v0::vs,ws,rfl,rfl,by rw [<-hK]; exact p1,by rw [<-hK]; exact p2,by simp,by rw [t1.length,t2.length]; exact z,fun e=>?_,fun e p hp=>?_⟩
    ·subst e
     cases t2
     rcases tx with tx | ⟨_,_,tx⟩
     ·refine po _ F H sb .refl ?_
      rw [bi]
      exact tx
     ·exact tx.elim
    ·obtain ⟨s2,c2⟩:=uB (u:=.tup (v0::vs++ws)) sb hp
     exact po _ _ _ s2 c2 (.tup (.inl (.inl qm)) ((t1.append t2).mono c2.grow))
  ·rw [if_neg z] at po; exact po.elim
 | _=>exact po.elim
end
inductive PM where
 | val | io | tk
 deriving DecidableEq
noncomputable def wz:List PM->List V->List Addr
 | .val::ms,_::vs=>wz ms vs
 | .io::ms,.ref a::vs=>a::wz ms vs
 | .tk::ms,.ref a::vs=>a::wz ms vs
 | _::ms,_::vs=>wz ms vs
 | _,_=>[]
def ArgsIs (K:Frag) (F H:Hp):List PM->List V->List D->Prop
 | [],[],[]=>True
 | .val::ms,v::vs,d::ds=>Is K F v d/\ArgsIs K F H ms vs ds
 | .io::ms,v::vs,d::ds=>(∃ a,v=.ref a/\F a=none/\OwnIs K F H a d)/\ArgsIs K F H ms vs ds
 | .tk::ms,v::vs,d::ds=>(∃ a,v=.ref a/\F a=none/\OwnIs K F H a d)/\ArgsIs K F H ms vs ds
 | _,_,_=>False
def wn (K:Frag) (F H:Hp):List PM->List V->List D->Prop
 | [],_,_=>True
 | .io::ms,v::vs,d::ds=>(∃ a,v=.ref a/\F a=none/\OwnIs K F H a d)/\wn K F H ms vs ds
 | _::ms,_::vs,_::ds=>wn K F H ms vs ds
 | _,_,_=>False
abbrev LA (ms:List PM) (vs:List V):Addr->Prop:=fun b=>b∈wz ms vs
def PoG (K:Frag) (cv:Str->Value) (ms:List PM) (mr:Mo) (vs:List V) (F H:Hp) (Q:VK) (E:XK) (o:Out (D×List D)):Prop:=match o with
 | .ok (d,outs)=>∀ v F' H',Same F' H'->Chg (LA ms vs) F H F' H'->wn K F' H' ms vs outs->MoIs K mr H F' H' v d->Q v H'
 | .exc c o=>∀ F' H',Same F' H'->Chg (LA ms vs) F H F' H'->wn K F' H' ms vs (o.map (·.getD .non))->E (cv c) none H'
 | .bad=>False
def spD (K:Frag) (cv:Str->Value) (ms:List PM) (mr:Mo) (G:List D->Out (D×List D)):Sp:=fun vs H Q E=>∃ F ds,Same F H/\ArgsIs K F H ms vs ds/\(wz ms vs).Nodup/\PoG K cv ms mr vs F H Q E (G ds)
theorem ArgsIs.length:∀ {ms:List PM} {vs:List V} {ds:List D},ArgsIs K F H ms vs ds->vs.length=ms.length/\ds.length=ms.length
 | [],[],[],_=>⟨rfl,rfl⟩
 | .val::ms,v::vs,d::ds,h=>by have:=ArgsIs.length h.2; simp [this]
 | .io::ms,v::vs,d::ds,h=>by have:=ArgsIs.length h.2; simp [this]
 | .tk::ms,v::vs,d::ds,h=>by have:=ArgsIs.length h.2; simp [this]
 | [],_::_,_,h=>h.elim
 | [],[],_::_,h=>h.elim
 | .val::_,[],_,h=>h.elim
 | .val::_,_::_,[],h=>h.elim
 | .io::_,[],_,h=>h.elim
 | .io::_,_::_,[],h=>h.elim
 | .tk::_,[],_,h=>h.elim
 | .tk::_,_::_,[],h=>h.elim
noncomputable def jv (n:Nat):List PM->List Nat
 | []=>[]
 | .val::ms=>jv (n+1) ms
 | _::ms=>n::jv (n+1) ms
noncomputable def Jh (n:Nat):List PM->List Nat
 | []=>[]
 | .io::ms=>n::Jh (n+1) ms
 | _::ms=>Jh (n+1) ms
variable {n:Nat}
theorem uQ:∀ {ms:List PM} {i:Nat},i∈jv n ms->n<=i/\i < n+ms.length:=by
 intro ms
 induction ms generalizing n with
 | nil=>intro i h; simp [jv] at h
 | cons m ms ih=>
  intro i h
  cases m with
  | val=>have:=ih (n:=n+1) h; simp only [ae]; omega
  | io=>
   rcases ac.mp h with e | h
   ·simp only [ae]; omega
   ·have:=ih (n:=n+1) h; simp only [ae]; omega
  | tk=>
   rcases ac.mp h with e | h
   ·simp only [ae]; omega
   ·have:=ih (n:=n+1) h; simp only [ae]; omega
theorem ZZ:∀ {ms:List PM} {i:Nat},i∈Jh n ms->i∈jv n ms:=by
 intro ms
 induction ms generalizing n with
 | nil=>intro i h; simp [Jh] at h
 | cons m ms ih=>
  intro i h
  cases m with
  | val=>exact ih (n:=n+1) h
  | io=>
   rcases ac.mp h with e | h
   ·exact ac.mpr (.inl e)
   ·exact af _ (ih (n:=n+1) h)
  | tk=>exact af _ (ih (n:=n+1) h)
theorem Ud:∀ {ms:List PM} {vs:List V} {ds:List D} {n:Nat},ArgsIs K F H ms vs ds ->
  (∀ j d,ds[j]?=some d->n+j∉jv n ms->∃ v,vs[j]?=some v/\Is K F v d) /\
  (∀ j d,ds[j]?=some d->n+j∈jv n ms->∃ a,vs[j]?=some (.ref a)/\F a=none/\OwnIs K F H a d):=by
 intro ms
 induction ms with
 | nil=>intro vs ds n h; cases vs <;> cases ds <;> first | exact h.elim | (refine ⟨fun j d e=>?_,fun j d e=>?_⟩ <;> simp at e)
 | cons m ms ih=>
  intro vs ds n h
  cases vs with
  | nil=>cases m <;> exact h.elim
  | cons v vs=>
   cases ds with
   | nil=>cases m <;> exact h.elim
   | cons d ds=>
    cases m with
    | val=>
     obtain ⟨h1,h2⟩:=h
     obtain ⟨i1,i2⟩:=ih (n:=n+1) h2
     refine ⟨fun j e hj hn=>?_,fun j e hj hn=>?_⟩
     ·cases j with
      | zero=>simp at hj; subst hj; exact ⟨v,rfl,h1⟩
      | succ j=>simpa using i1 j e (by simpa using hj) (by rw [show n+1+j=n+(j+1) by omega]; exact hn)
     ·cases j with
      | zero=>have:=uQ (n:=n+1) hn; omega
      | succ j=>simpa using i2 j e (by simpa using hj) (by rw [show n+1+j=n+(j+1) by omega]; exact hn)
    | io=>
     obtain ⟨⟨a,rfl,h1⟩,h2⟩:=h
     obtain ⟨i1,i2⟩:=ih (n:=n+1) h2
     refine ⟨fun j e hj hn=>?_,fun j e hj hn=>?_⟩
     ·cases j with
      | zero=>exact absurd (ac.mpr (.inl rfl)) hn
      | succ j=>simpa using i1 j e (by simpa using hj) (fun z=>hn (af _ (by rw [show n+(j+1)=n+1+j by omega]; exact z)))
     ·cases j with
      | zero=>simp at hj; subst hj; exact ⟨a,rfl,h1⟩
      | succ j=>
       have hm:n+1+j∈jv (n+1) ms:=by
        rcases ac.mp hn with z | z
        ·omega
        ·rw [show n+1+j=n+(j+1) by omega]; exact z
       simpa using i2 j e (by simpa using hj) hm
    | tk=>
     obtain ⟨⟨a,rfl,h1⟩,h2⟩:=h
     obtain ⟨i1,i2⟩:=ih (n:=n+1) h2
     refine ⟨fun j e hj hn=>?_,fun j e hj hn=>?_⟩
     ·cases j with
      | zero=>exact absurd (ac.mpr (.inl rfl)) hn
      | succ j=>simpa using i1 j e (by simpa using hj) (fun z=>hn (af _ (by rw [show n+(j+1)=n+1+j by omega]; exact z)))
     ·cases j with
      | zero=>simp at hj; subst hj; exact ⟨a,rfl,h1⟩
      | succ j=>
       have hm:n+1+j∈jv (n+1) ms:=by
        rcases ac.mp hn with z | z
        ·omega
        ·rw [show n+1+j=n+(j+1) by omega]; exact z
       simpa using i2 j e (by simpa using hj) hm
theorem Yr:∀ {ms:List PM} {vs:List V} {j:Nat} {a:Addr},n+j∈jv n ms->vs[j]?=some (.ref a)->a∈wz ms vs:=by
 intro ms
 induction ms generalizing n with
 | nil=>intro vs j a h; simp [jv] at h
 | cons m ms ih=>
  intro vs j a h e
  cases vs with
  | nil=>simp at e
  | cons v vs=>
   cases j with
   | zero=>
    simp at e; subst e
    cases m with
    | val=>have:=uQ (n:=n+1) h; omega
    | io=>exact ac.mpr (.inl rfl)
    | tk=>exact ac.mpr (.inl rfl)
   | succ j=>
    have e':vs[j]?=some (.ref a):=by simpa using e
    have sub:n+1+j∈jv (n+1) ms:=by
     rw [show n+1+j=n+(j+1) by omega]
     cases m with
     | val=>exact h
     | io=>exact (ac.mp h).resolve_left (by omega)
     | tk=>exact (ac.mp h).resolve_left (by omega)
    have q:=ih (n:=n+1) sub e'
    cases m <;> cases v <;> first | exact q | exact af _ q
theorem Ys:∀ {ms:List PM} {vs:List V} {a:Addr},a∈wz ms vs->∃ j,n+j∈jv n ms/\vs[j]?=some (.ref a):=by
 intro ms
 induction ms generalizing n with
 | nil=>intro vs a h; cases vs <;> simp [wz] at h
 | cons m ms ih=>
  intro vs a h
  cases vs with
  | nil=>cases m <;> simp [wz] at h
  | cons v vs=>
   have up:∀ {b},b∈wz ms vs->∃ j,n+j∈jv n (m::ms)/\(v::vs)[j]?=some (.ref b):=fun hb=>by
    obtain ⟨j,h1,h2⟩:=ih (n:=n+1) hb
    refine ⟨j+1,?_,by simpa using h2⟩
    rw [show n+(j+1)=n+1+j by omega]
    cases m with
    | val=>exact h1
    | io=>exact af _ h1
    | tk=>exact af _ h1
   cases m with
   | val=>exact up (by cases v <;> exact h)
   | io=>
    cases v with
    | ref c=>
     rcases ac.mp h with e | h
     ·subst e; exact ⟨0,ac.mpr (.inl rfl),rfl⟩
     ·exact up h
    | _=>exact up h
   | tk=>
    cases v with
    | ref c=>
     rcases ac.mp h with e | h
     ·subst e; exact ⟨0,ac.mpr (.inl rfl),rfl⟩
     ·exact up h
    | _=>exact up h
theorem Ga:∀ {ms:List PM} {vs:List V} {i j:Nat} {a:Addr},(wz ms vs).Nodup->n+i∈jv n ms->n+j∈jv n ms->vs[i]?=some (.ref a)->vs[j]?=some (.ref a)->i=j:=by
 intro ms
 induction ms generalizing n with
 | nil=>intro vs i j a _ h; simp [jv] at h
 | cons m ms ih=>
  intro vs i j a nd hi hj e1 e2
  cases vs with
  | nil=>simp at e1
  | cons v vs=>
   have sub:∀ {k},n+(k+1)∈jv n (m::ms)->n+1+k∈jv (n+1) ms:=fun {k} h=>by
    rw [show n+1+k=n+(k+1) by omega]
    cases m with
    | val=>exact h
    | io=>exact (ac.mp h).resolve_left (by omega)
    | tk=>exact (ac.mp h).resolve_left (by omega)
   have nd':(wz ms vs).Nodup:=by
    cases m <;> cases v <;> first | exact nd | exact (aS.mp nd).2
   have no0:∀ {k b},n+0∈jv n (m::ms)->v=.ref b->n+(k+1)∈jv n (m::ms)->vs[k]?=some (.ref b)->False:=fun {k b} h0 hv hk ek=>by
    subst hv
    have q:=Yr (n:=n+1) (sub hk) ek
    cases m with
    | val=>have:=uQ (n:=n+1) h0; omega
    | io=>exact (aS.mp nd).1 q
    | tk=>exact (aS.mp nd).1 q
   cases i with
   | zero=>
    cases j with
    | zero=>rfl
    | succ j=>exact (no0 hi (by simpa using e1) hj (by simpa using e2)).elim
   | succ i=>
    cases j with
    | zero=>exact (no0 hj (by simpa using e2) hi (by simpa using e1)).elim
    | succ j=>exact congrArg (·+1) (ih (n:=n+1) nd' (sub hi) (sub hj) (by simpa using e1) (by simpa using e2))
noncomputable def qv (N:List Str) (ds:List D):Sl:=ds.map some++au (N.length - ds.length) none
variable {α:Type} {N:List Str}
theorem get_start {xs:List α} {x:α}:(xs.map some++au (N.length - xs.length) none)[i]?=some (some x)↔xs[i]?=some x:=by
 by_cases h:i < xs.length
 ·rw [ci (by simpa using h),aY]
  cases e:xs[i]? with
  | none=>simp
  | some y=>simp
 ·rw [bB (by simpa using h),bf]
  have e:xs[i]?=none:=cg.mpr (by omega)
  rw [e]
  split <;> simp
variable {ms:List PM}
theorem xO (sb:Same F H) (ar:ArgsIs K F H ms vs ds) (nd:(wz ms vs).Nodup):Rep K (jv 0 ms) F H (vf N vs) (qv N ds):=by
 obtain ⟨h1,h2⟩:=Ud (n:=0) ar
 obtain ⟨l1,l2⟩:=ar.length
 refine ⟨sb,by simp [vf,qv,l1,l2],fun i d hi e=>?_,fun i d hi e=>?_,fun i hi=>?_,fun i j a hi hj e1 e2=>?_⟩
 ·obtain ⟨v,a,b⟩:=h1 i d (get_start.mp e) (by simpa using hi)
  exact ⟨v,get_start.mpr a,b⟩
 ·obtain ⟨v,a,b⟩:=h2 i d (get_start.mp e) (by simpa using hi)
  exact ⟨v,get_start.mpr a,b⟩
 ·have q:=uQ hi
  have hl:i < ds.length:=by omega
  exact ⟨ds[i],get_start.mpr (by simp [hl])⟩
 ·exact Ga (n:=0) nd (by simpa using hi) (by simpa using hj) (get_start.mp e1) (get_start.mp e2)
theorem oa_start:OA (jv 0 ms) (vf N vs) b↔LA ms vs b:=by
 constructor
 ·rintro ⟨i,hi,e⟩
  exact Yr (n:=0) (by simpa using hi) (get_start.mp e)
 ·intro h
  obtain ⟨j,h1,h2⟩:=Ys (n:=0) h
  exact ⟨j,by simpa using h1,get_start.mpr h2⟩
noncomputable def qB (ρ:Sl):Nat->List PM->List D
 | _,[]=>[]
 | n,.io::ms=>((ρ[n]?).getD none).getD .non::qB ρ (n+1) ms
 | n,_::ms=>.non::qB ρ (n+1) ms
theorem qbG {σ:St} {N:List Str}:∀ {ms:List PM} {vs:List V} {n:Nat},vs.length=ms.length->(∀ i∈Jh n ms,∃ d a,ρ[i]?=some (some d)/\vs[i - n]?=some (V.ref a)/\F a=none/\OwnIs K F H a d)->wn K F H ms vs (qB ρ n ms):=by
 intro ms
 induction ms with
 | nil=>intro vs n _ _; trivial
 | cons m ms ih=>
  intro vs n hl h
  cases vs with
  | nil=>simp at hl
  | cons v vs=>
   have rest:(∀ i∈Jh (n+1) ms,i∈Jh n (m::ms))->wn K F H ms vs (qB ρ (n+1) ms):=fun hs=>by
    refine ih (by simpa using hl) fun i hi=>?_
    obtain ⟨d,a,e1,e2,e3⟩:=h i (hs i hi)
    have q:=uQ (ZZ hi)
    refine ⟨d,a,e1,?_,e3⟩
    rw [show i - n=(i - (n+1))+1 by omega] at e2
    simpa using e2
   cases m with
   | val=>exact rest fun i hi=>hi
   | io=>
    obtain ⟨d,a,e1,e2,e3⟩:=h n (ac.mpr (.inl rfl))
    refine ⟨⟨a,by simpa using e2,e3.1,?_⟩,rest fun i hi=>af _ hi⟩
    rw [e1]
    exact e3.2
   | tk=>exact rest fun i hi=>hi
noncomputable def Fl.val:Fl->Option D
 | .nx=>some .non
 | .rt d=>some d
 | _=>none
noncomputable def vE (N:List Str) (ms:List PM) (f:Sl->Out (Fl×Sl)) (ds:List D):Out (D×List D):=match f (qv N ds) with
 | .ok (.nx,ρ)=>.ok (.non,qB ρ 0 ms)
 | .ok (.rt d,ρ)=>.ok (d,qB ρ 0 ms)
 | .ok _=>.bad
 | .exc c ρ=>.exc c ((qB ρ 0 ms).map some)
 | .bad=>.bad
theorem VZ:∀ (l:List D),(l.map some).map (fun x:Option D=>x.getD .non)=l
 | []=>rfl
 | a::l=>congrArg (a::·) (VZ l)
def Out.le {α:Type} (a b:Out α):Prop:=a=.bad\/a=b
theorem Yt {f:Sl->Out (Fl×Sl)} {Q:VK} {o:Out (D×List D)} (hio:C.io=Jh 0 ms) (hox:C.ox=C.io) (hmr:C.mr=.sh\/∀ ρ,(f (qv N ds))≠.ok (.nx,ρ)) (hsub:∀ i∈Jh 0 ms,i∈own') (sb:Same F H) (ar:ArgsIs C.K F H ms vs ds) (nd:(wz ms vs).Nodup)
  (hG:Out.le o (vE N ms f ds)) (h:PoG C.K C.cv ms C.mr vs F H Q C.E o):tSt C (jv 0 ms) own' f { nx:=fun _ H'=>Q .non H',rt:=Q } (vf N vs) H:=by
 refine ⟨F,qv N ds,xO sb ar nd,?_⟩
 have hl:=ar.length.1
 have ch:∀ {F' H'},Chg (OA (jv 0 ms) (vf N vs)) F H F' H'->Chg (LA ms vs) F H F' H':=fun c=>c.mono fun x z=>oa_start.mp z
 have outs:∀ {σ':St} {ρ':Sl} {F' H':Hp},UA C.K C.io F' H' σ' ρ'->(∀ i∈C.io,σ'[i]?=(vf N vs)[i]?)->wn C.K F' H' ms vs (qB ρ' 0 ms):=fun {σ' ρ' F' H'} io e=>by
  refine qbG (N:=N) (σ:=σ') hl fun i hi=>?_
  have hi':i∈C.io:=by rw [hio]; exact hi
  obtain ⟨d,a,e1,e2,e3⟩:=io i hi'
  refine ⟨d,a,e1,?_,e3⟩
  rw [e i hi'] at e2
  exact get_start.mp e2
 rcases hG with e | e
 ·subst e; exact h.elim
 ·subst e
  unfold vE at h
  cases q:f (qv N ds) with
  | ok p=>
   rw [q] at h
   obtain ⟨fl,ρ'⟩:=p
   cases fl with
   | nx=>
    have hm:C.mr=.sh:=hmr.resolve_right fun z=>z ρ' q
    exact fun σ' F' H' n=>h .non F' H' n.rep.sub (ch n.chg) (outs (n.rep.ioIs (by rw [hio]; exact hsub)) n.io) (by rw [hm]; exact .non)
   | rt d=>exact fun v σ' F' H' s io c e mo=>h v F' H' s (ch c) (outs io e) mo
   | bk=>exact h.elim
   | ct=>exact h.elim
  | exc c ρ'=>
   rw [q] at h
   exact fun F' H' s io c'=>h F' H' s (ch c') (by rw [VZ]; exact outs (σ':=vf N vs) (by rw [<-hox]; exact io) fun _ _=>rfl)
  | bad=>rw [q] at h; exact h.elim
def Ki (K:Frag) (cv:Str->Value) (E:XK) (ms:List PM) (mr:Mo):Ct:=⟨K,cv,E,Jh 0 ms,mr,[],Jh 0 ms,fun _ h=>h⟩
theorem qfJ {P:Program} {w:World} {K:Frag} {mg:Str->Option Value} {base:Heap} {CX:CXT} {x qual:Str} {st:Stmt} {f:Addr} {fd:FuncData} {N ps:List Str} {k:Nat} {cv:Str->Value} {ms:List PM} {mr:Mo} {own':List Nat} {fb:Sl->Out (Fl×Sl)} {G:List D->Out (D×List D)}
  (F:Fun K x qual st f fd) (S:FnScope N ps (qd st)) (hl:ms.length=ps.length) (hsub:∀ i∈Jh 0 ms,i∈own') (hmr:mr=.sh\/∀ ds ρ,(fb (qv N ds))≠.ok (.nx,ρ))
  (hbody:∀ (cdv:Value) (A:Around) (outer:List Env) (s:Shared) (H:Hp) (E:XK),Room k (A.deeper (envOfC qual (qd st) s.heap.objs.size f cdv)) ->
   PSs (Zr CX P w K mg base N qual (qd st) f cdv A outer s H E) (jz st) (tSt (Ki K cv E ms mr) (jv 0 ms) own' fb))
  (hG:∀ ds,Out.le (G ds) (vE N ms fb ds)):FnOk P w K mg base CX (k+1) f fd ps (spD K cv ms mr G):=by
 obtain ⟨oc,od,kV,doc,pm,an,cdv,ct,osl,rfl,lk,hcd⟩:=F.ex
 refine ZM lk hcd S (fun vs H Q E h=>?_) fun A outer s H vs Q E hr hsp=>?_
 ·obtain ⟨F,ds,_,ar,_⟩:=h
  rw [ar.length.1,hl]
 ·obtain ⟨F1,ds,sb,ar,nd,h⟩:=hsp
  refine ⟨_,hbody cdv A outer s H E hr,?_⟩
  exact Yt (C:=Ki K cv E ms mr) rfl rfl (hmr.imp id fun z ρ=>z ds ρ) hsub sb ar nd (hG ds) h
noncomputable def wA:AK->PM
 | .vl=>.val
 | .sl _=>.io
 | .fr=>.tk
noncomputable def qH:List AK->List D->Sl->Option (List D)
 | [],[],_=>some []
 | .sl i::as,_::ds,ρ=>match ρ[i]? with
  | some (some d)=>(qH as ds ρ).map (d::·)
  | _=>none
 | .vl::as,d::ds,ρ=>(qH as ds ρ).map (d::·)
 | .fr::as,d::ds,ρ=>(qH as ds ρ).map (d::·)
 | _,_,_=>none
noncomputable def jT:List AK->List D->Sl->Sl
 | .sl i::as,d::outs,ρ=>jT as outs (ρ.set i (some d))
 | _::as,_::outs,ρ=>jT as outs ρ
 | _,_,ρ=>ρ
noncomputable def jl:List AK->List Nat
 | []=>[]
 | .sl i::as=>i::jl as
 | _::as=>jl as
noncomputable def frA:List AK->Nat
 | []=>0
 | .fr::as=>frA as+1
 | _::as=>frA as
section
theorem uR:∀ {as:List AK} {vs:List V} {ds ds':List D},Rep K own F H σ ρ->(∀ i∈jl as,i∈own)->ArgV K H0 F H σ as vs ds->qH as ds ρ=some ds'->ArgsIs K F H (as.map wA) vs ds'
 | [],vs,ds,ds',rp,hs,av,e=>by
  cases vs <;> cases ds <;> first | exact av.elim | (simp [qH] at e; subst e; trivial)
 | a::as,[],ds,ds',rp,hs,av,e=>by cases a <;> exact av.elim
 | a::as,v::vs,[],ds',rp,hs,av,e=>by cases a <;> exact av.elim
 | .vl::as,v::vs,d::ds,ds',rp,hs,av,e=>by
  cases q:qH as ds ρ with
  | none=>simp [qH,q] at e
  | some l=>
   have e:d::l=ds':=by simpa [qH,q] using e
   subst e
   exact ⟨av.1,uR rp hs av.2 q⟩
 | .fr::as,v::vs,d::ds,ds',rp,hs,av,e=>by
  cases q:qH as ds ρ with
  | none=>simp [qH,q] at e
  | some l=>
   have e:d::l=ds':=by simpa [qH,q] using e
   subst e
   obtain ⟨a,h1,_,h2,h3⟩:=av.1
   exact ⟨⟨a,h1,h2,h3⟩,uR rp hs av.2 q⟩
 | .sl i::as,v::vs,d::ds,ds',rp,hs,av,e=>by
  obtain ⟨h1,_,av2⟩:=av
  have hi:i∈own:=hs i (ac.mpr (.inl rfl))
  obtain ⟨d',hd⟩:=rp.opn i hi
  obtain ⟨a,e1,e2,e3⟩:=rp.ow i d' hi hd
  rw [h1] at e1
  cases e1
  cases q:qH as ds ρ with
  | none=>simp [qH,q,hd] at e
  | some l=>
   have e:d'::l=ds':=by simpa [qH,q,hd] using e
   subst e
   exact ⟨⟨a,rfl,e2,e3⟩,uR rp (fun j hj=>hs j (af _ hj)) av2 q⟩
theorem kU:∀ {as:List AK} {vs:List V} {ds:List D} {b:Addr},ArgV K H0 F H σ as vs ds->b∈wz (as.map wA) vs->(∃ i∈jl as,σ[i]?=some (some (V.ref b)))\/(H0 b=none/\frA as≠0/\H b≠none/\F b=none)
 | [],vs,ds,b,av,h=>by cases vs <;> simp [wz] at h
 | a::as,[],ds,b,av,h=>by cases a <;> exact av.elim
 | a::as,v::vs,[],b,av,h=>by cases a <;> exact av.elim
 | .vl::as,v::vs,d::ds,b,av,h=>by
  have h:b∈wz (as.map wA) vs:=by cases v <;> exact h
  exact kU (as:=as) av.2 h
 | .fr::as,v::vs,d::ds,b,av,h=>by
  obtain ⟨⟨a,rfl,h0,hF,o⟩,av2⟩:=av
  have h:b∈a::wz (as.map wA) vs:=h
  rcases ac.mp h with e | h
  ·subst e; exact .inr ⟨h0,by simp [frA],o.there,hF⟩
  ·rcases kU av2 h with z | ⟨z,_,z2⟩
   ·exact .inl z
   ·exact .inr ⟨z,by simp [frA],z2⟩
 | .sl i::as,v::vs,d::ds,b,av,h=>by
  obtain ⟨h1,_,av2⟩:=av
  have up:b∈wz (as.map wA) vs->(∃ j∈jl (.sl i::as),σ[j]?=some (some (V.ref b)))\/(H0 b=none/\frA (.sl i::as)≠0/\H b≠none/\F b=none):=fun h=>by
   rcases kU av2 h with ⟨j,hj,e⟩ | z
   ·exact .inl ⟨j,af _ hj,e⟩
   ·exact .inr z
  cases v with
  | ref a=>
   have h:b∈a::wz (as.map wA) vs:=h
   rcases ac.mp h with e | h
   ·subst e; exact .inl ⟨i,ac.mpr (.inl rfl),h1⟩
   ·exact up h
  | _=>exact up h
theorem wZ:∀ {as:List AK} {vs:List V} {ds:List D},Rep K own F H σ ρ->(∀ x,OA own σ x->H0 x≠none)->(∀ i∈jl as,i∈own)->(jl as).Nodup->frA as<=1->ArgV K H0 F H σ as vs ds->(wz (as.map wA) vs).Nodup
 | [],vs,ds,rp,h0,hs,nd,hf,av=>by cases vs <;> simp [wz]
 | a::as,[],ds,rp,h0,hs,nd,hf,av=>by cases a <;> exact av.elim
 | a::as,v::vs,[],rp,h0,hs,nd,hf,av=>by cases a <;> exact av.elim
 | .vl::as,v::vs,d::ds,rp,h0,hs,nd,hf,av=>by
  have q:=wZ (as:=as) rp h0 hs nd hf av.2
  cases v <;> exact q
 | .fr::as,v::vs,d::ds,rp,h0,hs,nd,hf,av=>by
  have hf':frA as=0:=by simp only [frA] at hf; omega
  obtain ⟨⟨a,rfl,hz,hF,o⟩,av2⟩:=av
  show (a::wz (as.map wA) vs).Nodup
  refine aS.mpr ⟨fun z=>?_,wZ rp h0 hs nd (by omega) av2⟩
  rcases kU av2 z with ⟨i,hi,e⟩ | ⟨_,n,_⟩
  ·exact h0 a ⟨i,hs i hi,e⟩ hz
  ·exact n hf'
 | .sl i::as,v::vs,d::ds,rp,h0,hs,nd,hf,av=>by
  obtain ⟨h1,_,av2⟩:=av
  have hs':∀ j∈jl as,j∈own:=fun j hj=>hs j (af _ hj)
  have hi:i∈own:=hs i (ac.mpr (.inl rfl))
  obtain ⟨ni,nd'⟩:=aS.mp nd
  have q:=wZ rp h0 hs' nd' hf av2
  cases v with
  | ref a=>
   show (a::wz (as.map wA) vs).Nodup
   refine aS.mpr ⟨fun z=>?_,q⟩
   rcases kU av2 z with ⟨j,hj,e⟩ | ⟨n,_⟩
   ·exact ni (by rw [rp.dis i j a hi (hs' j hj) h1 e]; exact hj)
   ·exact h0 a ⟨i,hi,h1⟩ n
  | _=>exact q
theorem vV:∀ {as:List AK} {outs:List D} {ρ:Sl} {i:Nat},i∉jl as->(jT as outs ρ)[i]?=ρ[i]?
 | [],outs,ρ,i,h=>by cases outs <;> rfl
 | a::as,[],ρ,i,h=>by cases a <;> rfl
 | .vl::as,d::outs,ρ,i,h=>vV (as:=as) h
 | .fr::as,d::outs,ρ,i,h=>vV (as:=as) h
 | .sl j::as,d::outs,ρ,i,h=>by
  have h':i≠j/\i∉jl as:=by simpa [jl] using h
  show (jT as outs (ρ.set j (some d)))[i]?=_
  rw [vV h'.2,ad (aX h'.1)]
theorem xm:∀ {as:List AK} {outs:List D} {ρ:Sl},(jT as outs ρ).length=ρ.length
 | [],outs,ρ=>by cases outs <;> rfl
 | a::as,[],ρ=>by cases a <;> rfl
 | .vl::as,d::outs,ρ=>xm (as:=as)
 | .fr::as,d::outs,ρ=>xm (as:=as)
 | .sl j::as,d::outs,ρ=>by
  show (jT as outs (ρ.set j (some d))).length=_
  rw [xm,bn]
theorem gM {F' H':Hp}:∀ {as:List AK} {vs:List V} {ds outs:List D} {ρ:Sl},(jl as).Nodup->(∀ i∈jl as,i < ρ.length)->ArgV K H0 F H σ as vs ds->wn K F' H' (as.map wA) vs outs->∀ i∈jl as,∃ d a,(jT as outs ρ)[i]?=some (some d)/\σ[i]?=some (some (V.ref a))/\F' a=none/\OwnIs K F' H' a d
 | [],vs,ds,outs,ρ,nd,hl,av,o,i,hi=>by simp [jl] at hi
 | a::as,[],ds,outs,ρ,nd,hl,av,o,i,hi=>by cases a <;> exact av.elim
 | a::as,v::vs,[],outs,ρ,nd,hl,av,o,i,hi=>by cases a <;> exact av.elim
 | a::as,v::vs,d::ds,[],ρ,nd,hl,av,o,i,hi=>by cases a <;> exact o.elim
 | .vl::as,v::vs,d::ds,u::outs,ρ,nd,hl,av,o,i,hi=>gM (as:=as) nd hl av.2 o i hi
 | .fr::as,v::vs,d::ds,u::outs,ρ,nd,hl,av,o,i,hi=>gM (as:=as) nd hl av.2 o i hi
 | .sl j::as,v::vs,d::ds,u::outs,ρ,nd,hl,av,o,i,hi=>by
  obtain ⟨ni,nd'⟩:=aS.mp nd
  obtain ⟨h1,_,av2⟩:=av
  obtain ⟨⟨a,e,hF,ow⟩,o2⟩:=o
  subst e
  rcases ac.mp hi with e | hi
  ·subst e
   refine ⟨u,a,?_,h1,hF,ow⟩
   show (jT as outs (ρ.set i (some u)))[i]?=_
   rw [vV ni,aF (hl i (ac.mpr (.inl rfl)))]
  ·exact gM (as:=as) (ρ:=ρ.set j (some u)) nd' (fun k hk=>by rw [bn]; exact hl k (af _ hk)) av2 o2 i hi
end
noncomputable def qC (as:List AK) (G:List D->Out (D×List D)) (fr:Sl->Out (List D×Sl)):Sl->Out (D×Sl):=fun ρ=>(fr ρ).bind fun p=>match qH as p.1 p.2 with
 | some ds=>match G ds with
  | .ok q=>.ok (q.1,jT as q.2 p.2)
  | .exc c o=>.exc c (jT as (o.map (·.getD .non)) p.2)
  | .bad=>.bad
 | none=>.bad
variable {G:List D->Out (D×List D)} {mr:Mo} {ps:List Str}
section
variable {fr:Sl->Out (List D×Sl)}
theorem Wa {F' H':Hp} {outs:List D} (rp:Rep C.K own F H σ ρ) (h0:∀ x,OA own σ x->H0 x≠none) (hs:∀ i∈jl as,i∈own) (nd:(jl as).Nodup) (av:ArgV C.K H0 F H σ as vs ds)
  (sb:Same F' H') (c:Chg (LA (as.map wA) vs) F H F' H') (o:wn C.K F' H' (as.map wA) vs outs):Rep C.K own F' H' σ (jT as outs ρ):=by
 have pin:=gM (ρ:=ρ) nd (fun i hi=>by
  obtain ⟨d,e⟩:=rp.opn i (hs i hi)
  exact (aE.mp e).1) av o
 refine ⟨sb,by rw [xm]; exact rp.len,fun i d hi e=>?_,fun i d hi e=>?_,fun i hi=>?_,rp.dis⟩
 ·rw [vV (fun z=>hi (hs i z))] at e
  obtain ⟨v,h1,h2⟩:=rp.val i d hi e
  exact ⟨v,h1,h2.mono c.grow⟩
 ·by_cases q:i∈jl as
  ·obtain ⟨d',a,e1,e2,e3,e4⟩:=pin i q
   rw [e1] at e
   cases e
   exact ⟨a,e2,e3,e4⟩
  ·rw [vV q] at e
   obtain ⟨a,h1,h2,h3⟩:=rp.ow i d hi e
   have nl:¬LA (as.map wA) vs a:=fun z=>by
    rcases kU av z with ⟨j,hj,e'⟩ | ⟨n,_⟩
    ·exact q (by rw [rp.dis i j a hi (hs j hj) h1 e']; exact hj)
    ·exact h0 a ⟨i,hi,h1⟩ n
   refine ⟨a,h1,?_,h3.grow c.grow fun o' q'=>c.keep a o' q' nl⟩
   cases q':F' a with
   | none=>rfl
   | some u=>
    rcases c.new a (by rw [q']; simp) with z | z | z
    ·exact absurd h2 z
    ·exact absurd z h3.there
    ·exact absurd z nl
 ·by_cases q:i∈jl as
  ·obtain ⟨d',a,e1,_⟩:=pin i q
   exact ⟨d',e1⟩
  ·rw [vV q]
   exact rp.opn i hi
theorem qbH {Q:VK} (hio:∀ i∈C.ox,i∈own) (hs:∀ i∈jl as,i∈own) (nd:(jl as).Nodup) (hf:frA as<=1) (h:tE C own mr (qC as G fr) σ H Q) :
  tAr C own as fr σ H fun vs H1=>spD C.K C.cv (as.map wA) mr G (vs++[]) H1 Q C.E:=by
 obtain ⟨F,ρ,rp,h⟩:=h
 have h0:∀ x,OA own σ x->H x≠none:=fun x z=>(rp.OA_there z).1
 refine ⟨F,ρ,rp,?_⟩
 unfold qC at h
 cases q0:fr ρ with
 | ok p=>
  rw [q0] at h
  obtain ⟨ds,ρ1⟩:=p
  intro vs F1 H1 rp1 c1 av
  rw [bi]
  have h1:Po C own mr σ F H (match qH as ds ρ1 with | some ds=>(match G ds with | .ok q=>.ok (q.1,jT as q.2 ρ1) | .exc c o=>.exc c (jT as (o.map (·.getD .non)) ρ1) | .bad=>.bad) | none=>.bad) Q:=h
  cases q:qH as ds ρ1 with
  | none=>simp only [q] at h1; exact h1.elim
  | some ds'=>
   simp only [q] at h1
   have lo:∀ x,LA (as.map wA) vs x->OA own σ x\/H x=none:=fun x z=>by
    rcases kU av z with ⟨i,hi,e⟩ | ⟨n,_⟩
    ·exact .inl ⟨i,hs i hi,e⟩
    ·exact .inr n
   refine ⟨F1,ds',rp1.sub,uR rp1 hs av q,wZ rp1 h0 hs nd hf av,?_⟩
   cases q2:G ds' with
   | ok p=>
    rw [q2] at h1
    obtain ⟨d,outs⟩:=p
    exact fun v F' H' sb c o mo=>h1 v F' H' (Wa rp1 h0 hs nd av sb c o) (c1.trans c lo) (MoIs.back (Ha:=H1) c1 mo)
   | exc x o=>rw [q2] at h1; exact fun F' H' sb c outs=>h1 F' H' sb ((Wa rp1 h0 hs nd av sb c outs).ioIs hio) (c1.trans c lo)
   | bad=>rw [q2] at h1; exact h1.elim
 | exc c=>rw [q0] at h; exact h
 | bad=>rw [q0] at h; exact h.elim
theorem qbI {CX:CXT} {k:Nat} {f:Addr} {fd:FuncData} {p pos:Pos} (F:FnOk X.prog X.w X.K X.mg X.base CX k f fd ps (spD C.K C.cv ms mr G)) (hr:Room k X.A) (hg:Gl X x) (hm:X.mg x=some (.ref f)) (hk:keepIn X.K (.ref f)=true) (hb:Binds X.K fd ps []) (hx:kC CX X C.E)
  (ha:PA X (e::es) (tAr C own as fr)) (hms:ms=as.map wA:=by rfl) (hs:∀ i∈jl as,i∈own:=by decide) (nd:(jl as).Nodup:=by decide) (hf:frA as<=1:=by decide) (hio:∀ i∈C.ox,i∈own:=by exact wl rfl) (hdb:(x == ("__debug__":Str))=false:=by decide) (he:starEach (e::es) X.env=(false,eval e X.env)::starEach es X.env:=by exact jk rfl)
  (hpl:(backTo pos (starEach es X.env)).any (·.1)=false:=by exact wX rfl):PE X (.Call (.Name x p) (e::es) [] pos) (tE C own mr (qC as G fr)):=by
 subst hms
 exact jd (qbo F hr hg hm hk hb .nil hx ha hdb he hpl) fun σ H Q h=>qbH hio hs nd hf h
end
structure ItIs (K:Frag) (F:Hp) (J:It) (ds:List D):Prop where
 go:∀ i H,i < ds.length->Same F H->J.go i H
 yld:∀ i Fi H x H' d,ds[i]?=some d->Same F Fi->Same Fi H->J.yld i H x H'->∃ F',Chg No Fi H F' H'/\Same F' H'/\Is K F' x d
 stop:∀ i H,ds.length<=i->Same F H->J.stop i H
def PoI (C:Ct) (own:List Nat) (σ:St) (F H:Hp) (r:Out (List D×Sl)) (R:It->Hp->Prop):Prop:=match r with
 | .ok (ds,ρ')=>∀ J F' H',Rep C.K own F' H' σ ρ'->Chg (OA own σ) F H F' H'->ItIs C.K F' J ds->R J H'
 | .exc c ρ'=>∀ F' H',Same F' H'->UA C.K C.ox F' H' σ ρ'->Chg (OA own σ) F H F' H'->C.E (C.cv c) none H'
 | .bad=>False
def tIt (C:Ct) (own:List Nat) (f:Sl->Out (List D×Sl)):TI:=fun σ H R=>∃ F ρ,Rep C.K own F H σ ρ/\PoI C own σ F H (f ρ) R
noncomputable def zN:D->Out (List D)
 | .lst xs=>.ok xs
 | .tup xs=>.ok xs
 | _=>.bad
noncomputable def qgk (f:Sl->Out (D×Sl)):Sl->Out (List D×Sl):=fun ρ=>(f ρ).bind fun p=>(zN p.1).bind fun ds=>.ok (ds,p.2)
theorem PoI.bindV {m:Mo} {k:D×Sl->Out (List D×Sl)} {Q:It->Hp->Prop} {R:VK} (hp:PoI C own σ F H (o.bind k) Q)
  (h:∀ v F1 H1 d ρ1,Rep C.K own F1 H1 σ ρ1->Chg (OA own σ) F H F1 H1->MoIs C.K m H F1 H1 v d->PoI C own σ F H (k (d,ρ1)) Q->R v H1):Po C own m σ F H o R:=by
 cases o with
 | ok p=>exact fun v F1 H1 rp c mo=>h v F1 H1 p.1 p.2 rp c mo hp
 | exc x=>exact hp
 | bad=>exact hp.elim
variable {fb:Sl->Out (Fl×Sl)} {g:D->Sl->Out Sl} {tg iter:Expr} {xs:List V} {gs:List D->Sl->Out Sl} {fi:Sl->Out (List D×Sl)}
section
theorem qbJ {t t':TI} (h:PI X tg e t) (i:∀ σ H Q,t' σ H Q->t σ H Q):PI X tg e t':=⟨fun pins s σ H R I hw=>h pins s σ H R I (i σ H R hw)⟩
theorem qdp (p:SqL K F a xs) (t:IsL K F xs ds):ItIs K F (Itl K a) ds where
 go:=fun i H hi s=>by
  have hx:i < xs.length:=by rw [t.length]; exact hi
  exact ⟨xs,xs[i],s.seq p,by simp [hx]⟩
 yld:=fun i Fi H x H' d e s1 s2 y=>by
  obtain ⟨rfl,y⟩:=y
  obtain ⟨v,h1,h2⟩:=t.getD e
  have q:=y xs ((s1.trans s2).seq p)
  rw [h1] at q
  cases q
  exact ⟨Fi,.refl,s2,h2.mono s1⟩
 stop:=fun i H hi s=>⟨xs,s.seq p,by rw [t.length]; exact hi⟩
theorem qdq (p:SqT K F a xs) (t:IsL K F xs ds):ItIs K F (Itt K a) ds where
 go:=fun i H hi s=>by
  have hx:i < xs.length:=by rw [t.length]; exact hi
  exact ⟨xs,xs[i],qD s p,by simp [hx]⟩
 yld:=fun i Fi H x H' d e s1 s2 y=>by
  obtain ⟨rfl,y⟩:=y
  obtain ⟨v,h1,h2⟩:=t.getD e
  have q:=y xs (qD (s1.trans s2) p)
  rw [h1] at q
  cases q
  exact ⟨Fi,.refl,s2,h2.mono s1⟩
 stop:=fun i H hi s=>⟨xs,qD s p,by rw [t.length]; exact hi⟩
noncomputable def Ji (lo:Int) (n:Nat):List D:=(bg n).map fun k=>.int (lo+(k:Nat))
theorem qdr {lo:Int}:ItIs K F (Itr lo n) (Ji lo n) where
 go:=fun i H hi _=>by
  have:i < n:=by simpa [Ji] using hi
  exact this
 yld:=fun i Fi H x H' d e s1 s2 y=>by
  obtain ⟨rfl,rfl⟩:=y
  have e:d=.int (lo+i):=by
   unfold Ji at e
   rw [aY] at e
   cases q:(bg n)[i]? with
   | none=>rw [q] at e; cases e
   | some k=>
    rw [q] at e
    have hk:k=i:=by
     have:=aE.mp q
     obtain ⟨_,z⟩:=this
     simpa using z.symm
    subst hk
    exact (br.inj e).symm
  subst e
  exact ⟨Fi,.refl,s2,.int _⟩
 stop:=fun i H hi _=>by
  have:n<=i:=by simpa [Ji] using hi
  exact this
noncomputable def vW (f:Sl->Out (D×Sl)):Sl->Out (List D×Sl):=fun ρ=>(f ρ).bind fun p=>match p.1 with
 | .int j=>if -(2 ^ 62)<=j/\j < 2 ^ 62 then .ok (Ji 0 j.toNat,p.2) else .bad
 | _=>.bad
theorem ua {p:Pos} (hg:Gl X "range") (hm:X.mg "range"=none) (h:PE X e (tE C own m f)) (hs:starEach [e] X.env=[(false,eval e X.env)]:=by exact qO rfl):PI X tg (.Call (.Name "range" p) [e] [] pos) (tIt C own (vW f)):=by
 refine qbJ (UG hg hm (qV h jZ hs) hs) fun σ H R ⟨F,ρ,rp,h⟩=>⟨F,ρ,rp,PoI.bindV h fun v F1 H1 d ρ1 rp1 c1 mo1 h1=>?_⟩
 cases d with
 | int j=>
  obtain rfl:=mo1.top.int
  have h1:PoI C own σ F H (if -(2 ^ 62)<=j/\j < 2 ^ 62 then .ok (Ji 0 j.toNat,ρ1) else .bad) R:=h1
  by_cases z:-(2 ^ 62)<=j/\j < 2 ^ 62
  ·rw [if_pos z] at h1
   exact ⟨j,rfl,z.1,z.2,h1 _ F1 H1 rp1 c1 qdr⟩
  ·rw [if_neg z] at h1; exact h1.elim
 | _=>exact h1.elim
def tGd (C:Ct) (own:List Nat) (g:D->Sl->Out Sl):TG:=fun v σ H Q=>∃ F ρ d,Rep C.K own F H σ ρ/\Is C.K F v d/\∃ ρ',g d ρ=.ok ρ'/\∀ σ',Rep C.K own F H σ' ρ'->(∀ b,OA own σ' b->OA own σ b)->(∀ i∈C.io,σ'[i]?=σ[i]?)->Q σ' H
def qew (C:Ct) (own:List Nat) (g:List D->Sl->Out Sl):TGs:=fun vs σ H Q=>∃ F ρ ds,Rep C.K own F H σ ρ/\IsL C.K F vs ds/\∃ ρ',g ds ρ=.ok ρ'/\∀ σ',Rep C.K own F H σ' ρ'->(∀ b,OA own σ' b->OA own σ b)->(∀ i∈C.io,σ'[i]?=σ[i]?)->Q σ' H
theorem qds {t t':TG} (h:PG X e t) (i:∀ v σ H Q,t' v σ H Q->t v σ H Q):PG X e t':=⟨fun pins s σ H v u Q I r hw=>h pins s σ H v u Q I r (i v σ H Q hw)⟩
theorem qaF {t t':TGs} (h:PGs X es t) (i:∀ v σ H Q,t' v σ H Q->t v σ H Q):PGs X es t':=⟨fun pins s σ H v u Q I r hw=>h pins s σ H v u Q I r (i v σ H Q hw)⟩
noncomputable def gNm (i:Nat):D->Sl->Out Sl:=fun d ρ=>if i < ρ.length then .ok (ρ.set i (some d)) else .bad
theorem jw {own:List Nat} (h:i∉own):vU own [i]=own:=by
 unfold vU
 rw [eM]
 intro j hj
 simp only [aC,decide_eq_true_eq]
 exact fun z=>h (by rw [<-z]; exact hj)
theorem qy (hN:X.N.Nodup) (hi:X.N[i]?=some x) (hx:Loc X.env.scope x) (ho:i∉own:=by decide) (hio:i∉C.io:=by exact uo rfl) (hf:X.fn x=true\/X.env.scope.names.lookup x=some .local:=by first | exact .inl rfl | exact .inr rfl):PG X (.Name x pos) (tGd C own (gNm i)):=by
 refine qds (qbi hN hi hx hf) fun v σ H Q ⟨F,ρ,d,rp,is,ρ',e,k⟩=>?_
 unfold gNm at e
 by_cases z:i < ρ.length
 ·rw [if_pos z] at e
  cases e
  have r2:=rp.put z is
  rw [jw ho] at r2
  refine k _ r2 (fun b q=>?_) fun j hj=>ad fun q=>hio (by rw [q]; exact hj)
  have q':OA (vU own [i]) (σ.set i (some v)) b:=by rw [jw ho]; exact q
  exact q'.put
 ·rw [if_neg z] at e; cases e
noncomputable def uC:List D->Sl->Out Sl
 | [],ρ=>.ok ρ
 | _::_,_=>.bad
noncomputable def ja (g:D->Sl->Out Sl) (gs:List D->Sl->Out Sl):List D->Sl->Out Sl
 | d::ds,ρ=>(g d ρ).bind fun ρ1=>gs ds ρ1
 | [],_=>.bad
theorem ub:PGs X [] (qew C own uC):=by
 refine qaF qbj fun vs σ H Q ⟨F,ρ,ds,rp,is,ρ',e,k⟩=>?_
 cases is with
 | nil=>cases e; exact ⟨rfl,k σ rp (fun _ z=>z) fun _ _=>rfl⟩
 | cons _ _=>cases e
theorem qN (h1:PG X e (tGd C own g)) (h2:PGs X es (qew C own gs)) (hs:(assignEach (e::es) X.env).map (·.2)=assign e X.env::(assignEach es X.env).map (·.2):=by rfl):PGs X (e::es) (qew C own (ja g gs)):=by
 refine qaF (ZA h1 h2 hs) fun vs σ H Q ⟨F,ρ,ds,rp,is,ρ',e,k⟩=>?_
 cases is with
 | nil=>cases e
 | @cons v d vs ds a t=>
  have e:(g d ρ).bind (fun ρ1=>gs ds ρ1)=.ok ρ':=e
  cases q:g d ρ with
  | ok ρ1=>
   rw [q] at e
   exact ⟨v,vs,rfl,F,ρ,d,rp,a,ρ1,q,fun σ1 rp1 oa1 io1=>⟨F,ρ1,ds,rp1,t,ρ',e,fun σ2 rp2 oa2 io2=>k σ2 rp2 (fun b z=>oa1 b (oa2 b z)) fun i hi=>(io2 i hi).trans (io1 i hi)⟩⟩
  | exc c=>rw [q] at e; cases e
  | bad=>rw [q] at e; cases e
noncomputable def uD (n:Nat) (gs:List D->Sl->Out Sl):D->Sl->Out Sl
 | .tup ds,ρ=>if ds.length=n then gs ds ρ else .bad
 | _,_=>.bad
theorem ym {k:Nat} (hK:C.K=X.K) (hc:X.calm=true) (h:PGs X es (qew C own gs)) (hn:(assignEach es X.env).length=n:=by rfl) (hst:(assignEach es X.env).findIdx? (·.1)=none:=by rfl):PG X (.Tuple es k pos) (tGd C own (uD n gs)):=by
 refine qds (qcZ hc h hn hst) fun v σ H Q ⟨F,ρ,d,rp,is,ρ',e,k⟩=>?_
 cases is with
 | @tup a xs ds p t=>
  have e:(if ds.length=n then gs ds ρ else .bad)=.ok ρ':=e
  by_cases z:ds.length=n
  ·rw [if_pos z] at e
   exact ⟨a,xs,rfl,by rw [<-hK]; exact qD rp.sub p,by rw [t.length]; exact z,F,ρ,ds,rp,t,ρ',e,k⟩
  ·rw [if_neg z] at e; cases e
 | _=>cases e
noncomputable def qex (fe:Sl->Out (D×Sl)) (g:D->Sl->Out Sl):Sl->Out (Fl×Sl):=fun ρ=>(fe ρ).bind fun p=>match g p.1 p.2 with
 | .ok ρ'=>.ok (.nx,ρ')
 | _=>.bad
theorem Yu (he:PE X e (tE C own m f)) (hg:PG X tg (tGd C own g)) (hm:m≠.any:=by decide) (hs:swapsWithSole [tg] e pos.line X.env=pure false:=by rfl) (hw:swappedStores [tg] e X.env=pure none:=by rfl)
  (h1:(assignEach [tg] X.env).map (·.2)=[assign tg X.env]:=by rfl):PS X (.Assign [tg] e pos) (tSt C own own (qex f g)):=by
 refine zM (qas (vg he hm) hg hs hw h1) fun D σ H ⟨F,ρ,rp,h⟩=>⟨F,ρ,rp,PoS.bindE h fun v F1 H1 d ρ1 rp1 c1 mo1 h1=>?_⟩
 cases q:g d ρ1 with
 | ok ρ'=>
  simp only [q] at h1
  exact ⟨F1,ρ1,d,rp1,mo1,ρ',q,fun σ' rp' oa io=>h1 σ' F1 H1 ⟨rp',.refl,fun b z=>.inl (oa b z),io⟩⟩
 | exc c=>simp only [q] at h1; exact h1.elim
 | bad=>simp only [q] at h1; exact h1.elim
noncomputable def xo (g:D->Sl->Out Sl) (fb:Sl->Out (Fl×Sl)):List D->Sl->Out (Fl×Sl)
 | [],ρ=>.ok (.nx,ρ)
 | d::ds,ρ=>(g d ρ).plain.bind fun ρ1=>(fb ρ1).bind fun p=>match p.1 with
  | .nx=>xo g fb ds p.2
  | .ct=>xo g fb ds p.2
  | .bk=>.ok (.nx,p.2)
  | .rt v=>.ok (.rt v,p.2)
noncomputable def qbK (fi:Sl->Out (List D×Sl)) (g:D->Sl->Out Sl) (fb:Sl->Out (Fl×Sl)):Sl->Out (Fl×Sl):=fun ρ=>(fi ρ).bind fun p=>xo g fb p.1 p.2
theorem gN {body:List Stmt} {fb:Sl->Out (Fl×Sl)} (hp:PassesOwn (model X.prog X.w) X.A X.env X.xe) (hc:X.calm=true) (hi:PI X tg iter (tIt C own fi)) (hg:PG X tg (tGd C own g))
  (hb:PSs X body (tSt { C with ol:=own } own own fb)) (hs:∀ x,foldedSetIterable iter X.env x=pure x:=by intro _; rfl):PS X (.For tg iter body [] pos) (tSt C own own (qbK fi g fb)):=by
 refine zM (qav hp hc hi hg hb hs) fun D σ H ⟨F,ρ,rp,h⟩=>⟨F,ρ,rp,?_⟩
 unfold qbK at h
 cases q0:fi ρ with
 | exc c=>rw [q0] at h; exact h
 | bad=>rw [q0] at h; exact h.elim
 | ok p=>
  rw [q0] at h
  obtain ⟨ds,ρ1⟩:=p
  intro J F1 H1 rp1 c1 it
  have h:PoS C own own σ F H (xo g fb ds ρ1) D:=h
  refine ⟨fun i m σ' H'=>m=ds.length - i/\i<=ds.length/\∃ F' ρ',Nx C own own σ F H ρ' σ' F' H'/\Same F1 F'/\PoS C own own σ' F' H' (xo g fb (ds.drop i) ρ') D,⟨ds.length,by simp,bt _,F1,ρ1,.ofE rp1 c1,Same.refl _,h.shift (.ofE rp1 c1)⟩,?_⟩
  rintro i m σ' H' ⟨rfl,hle,F',ρ',nx,gr,po⟩
  by_cases hlt:i < ds.length
  ·have hd:ds.drop i=ds[i]::ds.drop (i+1):=dB hlt
   rw [hd] at po
   have po:PoS C own own σ' F' H' ((g ds[i] ρ').plain.bind fun ρ1=>(fb ρ1).bind fun p=>match p.1 with | .nx=>xo g fb (ds.drop (i+1)) p.2 | .ct=>xo g fb (ds.drop (i+1)) p.2 | .bk=>.ok (.nx,p.2) | .rt v=>.ok (.rt v,p.2)) D:=po
   refine .inr ⟨it.go i H' hlt (gr.trans nx.rep.sub),fun σ2 H2=>ds.length - (i+1)=ds.length - (i+1)/\i+1<=ds.length/\∃ F' ρ',Nx C own own σ F H ρ' σ2 F' H2/\Same F1 F'/\PoS C own own σ2 F' H2 (xo g fb (ds.drop (i+1)) ρ') D,fun σ2 H2 q=>⟨ds.length - (i+1),by omega,q⟩,fun x H2 y=>?_⟩
   obtain ⟨F2,c2,s2,is2⟩:=it.yld i F' H' x H2 ds[i] (by simp [hlt]) gr nx.rep.sub y
   cases q1:g ds[i] ρ' with
   | exc c=>rw [q1] at po; exact po.elim
   | bad=>rw [q1] at po; exact po.elim
   | ok ρ2=>
    rw [q1] at po
    refine ⟨F2,ρ',ds[i],nx.rep.grow c2 s2,is2,ρ2,q1,fun σ3 rp3 oa3 io3=>⟨F2,ρ2,rp3,?_⟩⟩
    have n3:Nx C own own σ' F' H' ρ2 σ3 F2 H2:=⟨rp3,c2.ofNo,fun b z=>.inl (oa3 b z),io3⟩
    have po3:=PoS.shift (show PoS C own own σ' F' H' ((fb ρ2).bind fun p=>match p.1 with | .nx=>xo g fb (ds.drop (i+1)) p.2 | .ct=>xo g fb (ds.drop (i+1)) p.2 | .bk=>.ok (.nx,p.2) | .rt v=>.ok (.rt v,p.2)) D from po) n3
    have up:∀ {ρ4 σ4 F4 H4},Nx { C with ol:=own } own own σ3 F2 H2 ρ4 σ4 F4 H4->Nx C own own σ3 F2 H2 ρ4 σ4 F4 H4:=fun z=>⟨z.rep,z.chg,z.oa,z.io⟩
    cases q2:fb ρ2 with
    | exc c=>rw [q2] at po3; exact po3
    | bad=>rw [q2] at po3; exact po3.elim
    | ok p=>
     rw [q2] at po3
     obtain ⟨fl,ρ4⟩:=p
     cases fl with
     | nx=>exact fun σ4 F4 H4 n4=>⟨rfl,hlt,F4,ρ4,(nx.then n3).then (up n4),(gr.trans c2.grow).trans n4.chg.grow,PoS.shift (show PoS C own own σ3 F2 H2 (xo g fb (ds.drop (i+1)) ρ4) D from po3) (up n4)⟩
     | ct=>exact fun σ4 F4 H4 n4=>⟨rfl,hlt,F4,ρ4,(nx.then n3).then (up n4),(gr.trans c2.grow).trans n4.chg.grow,PoS.shift (show PoS C own own σ3 F2 H2 (xo g fb (ds.drop (i+1)) ρ4) D from po3) (up n4)⟩
     | bk=>exact fun σ4 F4 H4 n4=>po3 σ4 F4 H4 (up n4)
     | rt d=>exact fun v σ4 F4 H4 s io c e mo=>po3 v σ4 F4 H4 s io c e mo
  ·have e:i=ds.length:=by omega
   subst e
   rw [fg] at po
   exact .inl ⟨it.stop _ H' (ax _) (gr.trans nx.rep.sub),po σ' F' H' (.refl nx.rep)⟩
noncomputable def kW (ft:Sl->Out (Bool×Sl)) (fb:Sl->Out (Fl×Sl)):Nat->Sl->Out (Fl×Sl)
 | 0,_=>.bad
 | n+1,ρ=>(ft ρ).bind fun q=>if q.1=true then (fb q.2).bind fun p=>match p.1 with
  | .nx=>kW ft fb n p.2
  | .ct=>kW ft fb n p.2
  | .bk=>.ok (.nx,p.2)
  | .rt v=>.ok (.rt v,p.2)
  else .ok (.nx,q.2)
theorem Yv {t:Expr} {body:List Stmt} (n:Nat) (hp:PassesOwn (model X.prog X.w) X.A X.env X.xe) (ht:PT X t (tT C own ft)) (hb:PSs X body (tSt { C with ol:=own } own own fb)) :
  PS X (.While t body [] pos) (tSt C own own (kW ft fb n)):=by
 refine zM (ZB hp ht hb) fun D σ H ⟨F,ρ,rp,h⟩=>?_
 refine ⟨fun m σ' H'=>∃ F' ρ',Rep C.K own F' H' σ' ρ'/\PoS C own own σ' F' H' (kW ft fb m ρ') D,⟨n,F,ρ,rp,h⟩,?_⟩
 rintro m σ1 H1 ⟨F1,ρ1,rp1,po⟩
 refine ⟨F1,ρ1,rp1,?_⟩
 cases m with
 | zero=>exact po.elim
 | succ m=>
  have po:PoS C own own σ1 F1 H1 ((ft ρ1).bind fun q=>if q.1=true then (fb q.2).bind fun p=>match p.1 with | .nx=>kW ft fb m p.2 | .ct=>kW ft fb m p.2 | .bk=>.ok (.nx,p.2) | .rt v=>.ok (.rt v,p.2) else .ok (.nx,q.2)) D:=po
  refine PoS.bindT po fun F2 H2 k ρ2 rp2 c2 h2=>?_
  cases k with
  | false=>exact h2 σ1 F2 H2 (.refl rp2)
  | true=>
   refine ⟨fun σ3 H3=>∃ F' ρ',Rep C.K own F' H3 σ3 ρ'/\PoS C own own σ3 F' H3 (kW ft fb m ρ') D,fun σ3 H3 q=>⟨m,by omega,q⟩,F2,ρ2,rp2,?_⟩
   have h2:PoS C own own σ1 F2 H2 ((fb ρ2).bind fun p=>match p.1 with | .nx=>kW ft fb m p.2 | .ct=>kW ft fb m p.2 | .bk=>.ok (.nx,p.2) | .rt v=>.ok (.rt v,p.2)) D:=h2
   have up:∀ {ρ4 σ4 F4 H4},Nx { C with ol:=own } own own σ1 F2 H2 ρ4 σ4 F4 H4->Nx C own own σ1 F2 H2 ρ4 σ4 F4 H4:=fun z=>⟨z.rep,z.chg,z.oa,z.io⟩
   cases q2:fb ρ2 with
   | exc c=>rw [q2] at h2; exact h2
   | bad=>rw [q2] at h2; exact h2.elim
   | ok p=>
    rw [q2] at h2
    obtain ⟨fl,ρ4⟩:=p
    cases fl with
    | nx=>exact fun σ4 F4 H4 n4=>⟨F4,ρ4,n4.rep,PoS.shift (show PoS C own own σ1 F2 H2 (kW ft fb m ρ4) D from h2) (up n4)⟩
    | ct=>exact fun σ4 F4 H4 n4=>⟨F4,ρ4,n4.rep,PoS.shift (show PoS C own own σ1 F2 H2 (kW ft fb m ρ4) D from h2) (up n4)⟩
    | bk=>exact fun σ4 F4 H4 n4=>h2 σ4 F4 H4 (up n4)
    | rt d=>exact fun v σ4 F4 H4 s io c e mo=>h2 v σ4 F4 H4 s io c e mo
end
noncomputable def QK (cells:List (Str×Addr)):List (Str×NameKind)->List (Str×Addr)->List (Str×Addr)
 | [],acc=>acc
 | (n,k)::r,acc=>if (k == .free)=true then QK cells r ((n,(cells.lookup n).getD 0)::acc) else QK cells r acc
variable {env:Env}
theorem wB:∀ (names:List (Str×NameKind)) (acc:List (Str×Addr)),(∀ x∈names,x.2=.free->∃ c,env.cells.lookup x.1=some c) ->
  (forIn names acc fun (x:Str×NameKind) (cs:List (Str×Addr))=>if (x.2 == bK)=true then (do let a <-cellOf env x.1; pure (cx ((x.1,a)::cs))) else pure (cx cs):Sem (List (Str×Addr)))=pure (QK env.cells names acc)
 | [],acc,_=>rfl
 | (n,k)::r,acc,h=>by
  rw [fA]
  by_cases q:(k == bK)=true
  ·obtain ⟨c,hc⟩:=h (n,k) aw (by simpa using q)
   have e:cellOf env n=pure c:=by unfold cellOf; rw [hc]
   simp only [q,if_true,e]
   have ih:=wB r ((n,c)::acc) (fun x hx=>h x (af _ hx))
   simp only [QK,q,if_true,hc,Option.getD_some]
   exact ih
  ·simp only [q,if_false,QK]
   exact wB r acc (fun x hx=>h x (af _ hx))
variable {scope:Scope}
theorem gh (h:∀ x∈scope.names,x.2=.free->∃ c,env.cells.lookup x.1=some c):closureFor scope env=pure (QK env.cells scope.names []):=by
 have:=wB scope.names [] h
 unfold closureFor
 simp only [bind_pure]
 exact this
variable {cells:List (Str×Addr)}
theorem uE:∀ {names:List (Str×NameKind)} {acc:List (Str×Addr)} {x:Str} {c:Addr},(∀ y∈names,y.2=.free->∃ c,cells.lookup y.1=some c)->(QK cells names acc).lookup x=some c->cells.lookup x=some c\/acc.lookup x=some c
 | [],acc,x,c,_,h=>.inr h
 | (n,k)::r,acc,x,c,hf,h=>by
  unfold QK at h
  by_cases q:(k == bK)=true
  ·rw [if_pos q] at h
   obtain ⟨c',hc⟩:=hf (n,k) aw (by simpa using q)
   rcases uE (fun y hy=>hf y (af _ hy)) h with z | z
   ·exact .inl z
   ·rw [cT] at z
    have hc:cells.lookup n=some c':=hc
    by_cases e:(x == n)=true
    ·rw [e] at z
     simp only [hc,Option.getD_some] at z
     have:x=n:=by simpa using e
     subst this
     rw [hc]; exact .inl z
    ·have e:(x == n)=false:=by simpa using e
     rw [e] at z
     exact .inr z
  ·rw [if_neg q] at h
   exact uE (fun y hy=>hf y (af _ hy)) h
theorem gO:∀ {names:List (Str×NameKind)} {acc:List (Str×Addr)} {x:Str},(∃ c,acc.lookup x=some c)->∃ c,(QK cells names acc).lookup x=some c
 | [],_,_,h=>h
 | (n,k)::r,acc,x,h=>by
  unfold QK
  by_cases q:(k == bK)=true
  ·rw [if_pos q]
   refine gO ?_
   obtain ⟨c,hc⟩:=h
   rw [cT]
   by_cases e:(x == n)=true
   ·rw [e]; exact ⟨_,rfl⟩
   ·have e:(x == n)=false:=by simpa using e
    rw [e]; exact ⟨c,hc⟩
  ·rw [if_neg q]; exact gO h
theorem xp:∀ {names:List (Str×NameKind)} {acc:List (Str×Addr)} {x:Str},(x,bK)∈names->∃ c,(QK cells names acc).lookup x=some c
 | (n,k)::r,acc,x,h=>by
  unfold QK
  rcases ac.mp h with e | h
  ·cases e
   rw [if_pos (by rfl)]
   refine gO ?_
   rw [cT,beq_self_eq_true]
   exact ⟨_,rfl⟩
  ·by_cases q:(k == bK)=true
   ·rw [if_pos q]; exact xp h
   ·rw [if_neg q]; exact xp h
noncomputable def jN (X:Cx) (scope:Scope) (N:List Str) (fp:List Addr) (L:Addr) (s:Shared) (H:Hp):Cx:=
 { X with N:=N,s₀:=s,H₀:=H,env:=compEnvC scope (QK X.env.cells scope.names []) L X.env,outer:=X.stack,stack:=X.stack,ex:=fp,fn:=fun _=>false,pn:=[],xe:=fun _ _=>False }
structure ScOk (X:Cx) (scope:Scope):Prop where
 kind:scope.kind=.function
 nocell:∀ y∈scope.names,y.2≠.cell
 names:∀ y∈scope.names,y.2=.local->scope.names.lookup y.1=some .local
 free:∀ y∈scope.names,y.2=.free->X.env.kindOf y.1=some .cell\/X.env.kindOf y.1=some .free
 frl:∀ y∈scope.names,y.2=.free->scope.names.lookup y.1=some .free
theorem uc {a:α}:∀ {l:List (Str×α)},l.lookup x=some a->(x,a)∈l
 | [],h=>by simp at h
 | (n,k)::r,h=>by
  rw [cT] at h
  by_cases e:(x == n)=true
  ·rw [e] at h
   have h:some k=some a:=h
   cases h
   have:x=n:=by simpa using e
   subst this
   exact aw
  ·have e:(x == n)=false:=by simpa using e
   rw [e] at h
   exact af _ (uc h)
theorem yI {k:NameKind} (h:(relabel scope env).names.lookup x=some k) (hk:k=.cell\/k=.free) (hn:∀ y∈scope.names,y.2≠.cell):(x,bK)∈scope.names:=by
 have m:=uc h
 obtain ⟨⟨n,k'⟩,hm,e⟩:=aH.mp m
 dsimp only at e
 by_cases q:(k' == bK&&env.scope.kind == .function&&env.kindOf n == some .cell)=true
 ·rw [if_pos q] at e
  cases e
  have:k'=.free:=by
   rw [aP,aP] at q
   simpa using q.1.1
  subst this
  exact hm
 ·rw [if_neg q] at e
  cases e
  rcases hk with rfl | rfl
  ·exact absurd rfl (hn _ hm)
  ·exact hm
theorem Jj (h:Vis (relabel scope env) x):∃ k,(x,k)∈scope.names:=by
 have go:∀ {k:NameKind},(relabel scope env).names.lookup x=some k->∃ k,(x,k)∈scope.names:=fun {k} h=>by
  obtain ⟨⟨n,k'⟩,hm,e⟩:=aH.mp (uc h)
  dsimp only at e
  by_cases q:(k' == bK&&env.scope.kind == .function&&env.kindOf n == some .cell)=true
  ·rw [if_pos q] at e
   cases e
   exact ⟨_,hm⟩
  ·rw [if_neg q] at e
   cases e
   exact ⟨_,hm⟩
 rcases h with h | h | h <;> exact go h
variable {pins:List (Addr×Obj)} {σc:St} {s s':Shared} {fp:List Addr} {h':Heap}
section
theorem xP (I:Inv X pins σ H s) (S:ScOk X scope):∀ y∈scope.names,y.2=.free->∃ c,X.env.cells.lookup y.1=some c:=fun y hy e=>I.ok.has y.1 (S.free y hy e)
theorem Gb (I:Inv X pins σ H s) (S:ScOk X scope) (hf:∀ b∈fp,Kf X pins H b) (ho:∀ b∈fp,b < s.heap.objs.size) (hns:h'.Ns s.heap.objs.size (fun _=>none))
  (hk:∀ b o,s.heap.get? b=some o->h'.get? b=some o) (hl:σc.length=N.length)
  (hσ:∀ (j:Nat) (x:Str) (v:V),N[j]?=some x->σc[j]?=some (some v)->(∃ k,(x,k)∈scope.names)->∃ i:Nat,X.N[i]?=some x/\σ[i]?=some (some v)/\Vis X.env.scope x/\(x,bK)∈scope.names) {t:Nat} :
  Inv (jN X scope N fp s.heap.objs.size s H) [] σc H { s with heap:=h',toks:=t }:=by
 have hfc:=xP I S
 have cl:∀ x c,(QK X.env.cells scope.names []).lookup x=some c->X.env.cells.lookup x=some c:=fun x c e=>(uE hfc e).resolve_right (by simp)
 have nfs:∀ b∈fp,b∉frs X.stack:=fun b hb z=>by
  obtain ⟨f0,f1,f2,_⟩:=hf b hb
  rcases ac.mp (I.stkSub b z) with e | e
  ·exact f1 e
  ·exact f2 e
 refine ⟨⟨I.ok.mod,?_,I.ok.glob,I.ok.blt,ax _,fun x y c h1 h2=>I.ok.inj x y c (cl x c h1) (cl y c h2),fun x hx=>?_,fun x c h=>absurd h (by show ¬(false=true); exact bX),I.ok.hd,I.ok.frames,.inl rfl,fun b hb=>⟨ay (ho b hb),fun x c e z=>?_⟩,I.bs,bW I.ok.bsz I.sz,fun b o e hb=>?_,nfs,I.stack,I.stkFree⟩,
  rfl,I.bare,Un.kept hk,⟨_,hns,fun j x v e1 e2 e3=>?_⟩,fun x c e=>?_,I.hok.fresh (ax _),fun x c e=>I.freeC x c (cl x c e),fun p hp=>absurd (show p∈([]:List (Addr×Obj)) from hp) (by simp),I.hok.kept hk,hl⟩
 ·exact S.kind
 ·refine xp ?_
  rcases hx with hx | hx
  ·exact yI hx (.inl rfl) S.nocell
  ·exact yI hx (.inr rfl) S.nocell
 ·exact (hf b hb).2.2.2.2.1 x c (cl x c e) z
 ·rcases (hf b hb).2.2.2.1 with z | z
  ·exact I.ok.noex b o e z
  ·have hlt:=ap e
   exact absurd (aO hlt (bW I.ok.bsz z)) (bu _)
 ·obtain ⟨i,g1,g2,g3,g4⟩:=hσ j x v e1 e2 (Jj e3)
  obtain ⟨m,hn,hl'⟩:=I.loc
  obtain ⟨u,r,look⟩:=hl' i x v g1 g2 g3
  refine ⟨u,r,?_⟩
  obtain ⟨c0,hc0⟩:=xp (cells:=X.env.cells) (acc:=[]) g4
  have hce:=cl x c0 hc0
  have kd:(jN X scope N fp s.heap.objs.size s H).env.kindOf x=some .cell\/(jN X scope N fp s.heap.objs.size s H).env.kindOf x=some .free\/(jN X scope N fp s.heap.objs.size s H).env.kindOf x=some .local:=by
   rcases e3 with z | z | z
   ·exact .inr (.inr z)
   ·exact .inl z
   ·exact .inr (.inl z)
  rcases look with ⟨k,_⟩ | ⟨k,c,hc,z⟩
  ·rcases S.free _ g4 rfl with q | q
   ·have q:X.env.kindOf x=some .cell:=q
    rw [k] at q; cases q
   ·have q:X.env.kindOf x=some .free:=q
    rw [k] at q; cases q
  ·rw [hce] at hc
   cases hc
   obtain ⟨oc,ho1,ho2⟩:=z
   rcases kd with q | q | q
   ·exact .inr ⟨.inl q,c0,hc0,⟨oc,hk _ _ ho1,ho2⟩⟩
   ·exact .inr ⟨.inr q,c0,hc0,⟨oc,hk _ _ ho1,ho2⟩⟩
   ·refine absurd q ?_
    intro q
    have m2:=uc (show (relabel scope X.env).names.lookup x=some .local from q)
    obtain ⟨⟨n,k'⟩,hm,e⟩:=aH.mp m2
    dsimp only at e
    by_cases qq:(k' == bK&&X.env.scope.kind == .function&&X.env.kindOf n == some .cell)=true
    ·rw [if_pos qq] at e; cases e
    ·rw [if_neg qq] at e
     cases e
     have e1:=S.names _ hm rfl
     have e2:=S.frl _ g4 rfl
     have e1:scope.names.lookup x=some .local:=e1
     have e2:scope.names.lookup x=some .free:=e2
     rw [e1] at e2
     cases e2
 ·obtain ⟨v,oc,ho1,ho2⟩:=I.cell x c (cl x c e)
  exact ⟨v,oc,hk _ _ ho1,ho2⟩
theorem Gc {H1:Hp} {s1:Shared} {L:Addr} (I:Inv X pins σ H s) (hf:∀ b∈fp,Kf X pins H b) (J:Inv (jN X scope N fp s.heap.objs.size s H) [] σc H' s') (sb:bA s.heap.objs.size s'.heap h'):Inv X pins σ H' { s' with heap:=h' }:=by
 have hL:H' s.heap.objs.size=none:=J.free
 have ne:∀ b o,s.heap.get? b=some o->b≠s.heap.objs.size:=fun b o e=>ay (ap e)
 have U:Un (frs X.stack) fp H H' s.heap s'.heap:=J.base
 refine I.call' (s':={ s' with heap:=h' }) (ch:=fp) J.os ⟨fun b o e n h1 h2=>(sb.2 b (ne b o e)).trans (U.keep b o e n h1 h2),fun b o e n h1 h2=>?_,U.free,fun b o e h2=>?_,U.tups,U.frzs,U.tbls⟩ (fun b u e=>?_) J.bare fun b hb=>?_
 ·obtain ⟨sl,q⟩:=U.slot b o e n h1 h2
  exact ⟨sl,(sb.2 b (ne b o e)).trans q⟩
 ·obtain ⟨o',q⟩:=U.there b o e h2
  exact ⟨o',(sb.2 b (ne b o e)).trans q⟩
 ·refine (J.hok b u e).stay (fun c w hc q=>(sb.2 c ?_).trans q) (fun _ q=>q) fun _ _ q=>q
  rintro rfl
  rcases hc with z | z
  ·rw [<-z,hL] at e; cases e
  ·rw [hL] at z; cases z
 ·obtain ⟨f0,f1,f2,f3,f4,f5⟩:=hf b hb
  exact ⟨f3,f1,f4,f5⟩
end
theorem gP {prog:Program} {w:World} {A:Around} {R:Result->Shared->Prop} {s:Shared} {elt target iter:Expr} {ifs:List Expr} {scope:Scope} {pos:Pos} {it acc:Value} {env:Env} (I:Nat->Shared->Prop)
  (turn:∀ n s,I n s->wpAny (model prog w) A (pyNext it) (fun r s₁=>match r with
   | none=>R (.ok .next) s₁
   | some v=>wpAny (model prog w) A (letOwnedTupleGo target it v) (fun _ t₁=>wpAny (model prog w) A (assign target env v) (fun _ s₂=>
     wpAny (model prog w) A (forIn ifs true fun c r=>if r=true then do let ok <-isTrue c env (eval c env); pure (cx ok) else pure (cx r)) (fun ok s₃=>
      if ok=true then wpAny (model prog w) A (eval elt env) (fun x s₄=>
       wpAny (model prog w) A (call (.builtin "list.append") [acc,x]) (fun _ s₅=>∃ m,m < n/\I m s₅) (fun _ _=>False) s₄) (fun _ _=>False) s₃
      else ∃ m,m < n/\I m s₃) (fun _ _=>False) s₂) (fun _ _=>False) t₁) (fun _ _=>False) s₁) (fun _ _=>False) s)
  (n:Nat) (h:I n s):codeAny (model prog w) A (.compLoop (.ListComp elt [⟨target,iter,ifs,0⟩] scope pos) 0 it acc env) R s:=by
 have no:∀ {α:Type} {t:Sem α} {Q Q':α->Shared->Prop} {E':Value->Shared->Prop} {s:Shared},wpAny (model prog w) A t Q (fun _ _=>False) s->(∀ a s,Q a s->Q' a s)->wpAny (model prog w) A t Q' E' s:=fun h k=>wpAny_mono h k fun _ _ z=>z.elim
 refine codeAny_loop rfl I (fun n s hI=>?_) n h
 show wpAny _ A ((compTurn (.ListComp elt [⟨target,iter,ifs,0⟩] scope pos) 0 it acc env).onRaise (fun x=>do noteFrame x env; theTreesLotGoes x)) _ _ s
 refine wpAny_noted ?_
 rw [compTurn_list]
 refine wpAny_bind (wpAny_standAt (wpAny_bind (no (turn n s hI) fun r s₁ h₁=>?_)))
 cases r with
 | none=>exact wpAny_pure h₁
 | some v=>
  refine wpAny_bind (no h₁ fun _ t₁ k₁=>wpAny_bind (no k₁ fun _ s₂ h₂=>wpAny_bind (no h₂ fun ok s₃ h₃=>?_)))
  cases ok with
  | false=>exact wpAny_pure ⟨rfl,h₃⟩
  | true=>exact wpAny_bind (wpAny_bind (no h₃ fun x s₄ h₄=>wpAny_bind (no h₄ fun _ s₅ h₅=>wpAny_pure (wpAny_pure ⟨rfl,h₅⟩))))
structure PTs (Y:Cx) (ifs:List Expr) (t:TT):Prop where
 run:∀ (pins:List (Addr×Obj)) (s:Shared) (σ:St) (H:Hp) (Q:Bool->Hp->Prop),Inv Y pins σ H s->t σ H Q ->
  wpAny (model Y.prog Y.w) Y.A (forIn ifs true fun c r=>if r=true then do let ok <-isTrue c Y.env (eval c Y.env); pure (cx ok) else pure (cx r)) (TP Y pins σ Q) Y.xe s
instance {Y:Cx} {ifs:List Expr} {t:TT}:CoeFun (PTs Y ifs t) (fun _=>∀ (pins:List (Addr×Obj)) (s:Shared) (σ:St) (H:Hp) (Q:Bool->Hp->Prop),Inv Y pins σ H s->t σ H Q ->
  wpAny (model Y.prog Y.w) Y.A (forIn ifs true fun c r=>if r=true then do let ok <-isTrue c Y.env (eval c Y.env); pure (cx ok) else pure (cx r)) (TP Y pins σ Q) Y.xe s):=⟨fun h=>h.run⟩
variable {Y:Cx}
theorem qbL:PTs Y [] (fun _ H Q=>Q true H):=⟨fun _ _ _ H _ I h=>wpAny_tests_nil ⟨H,I,h⟩⟩
theorem Ky {t:TT} (h:PT Y c t):PTs Y [c] t:=⟨fun pins s σ H Q I q=>wpAny_tests_one (h pins s σ H Q I q)⟩
variable {ifs:List Expr} {te:TE} {E:Value->Shared->Prop}
section
variable {it:Addr} {tn:Nat->Heap->Prop} {J:It} {elt:Expr} {g:TG} {tt:TT}
theorem Gd (I:Inv X pins σ H s) (hcalm:X.calm=true) (S:ScOk X scope) (T:Turn X.prog X.w X.K tg J fp it tn) (st0:tn 0 s.heap) (hf:∀ b∈fp,Kf X pins H b)
  (hg:∀ fp L s' H',PG (jN X scope N fp L s' H') tg g) (ht:∀ fp L s' H',PTs (jN X scope N fp L s' H') ifs tt) (he:∀ fp L s' H',PE (jN X scope N fp L s' H') elt te) (hl:σc.length=N.length)
  (hσ:∀ (j:Nat) (x:Str) (v:V),N[j]?=some x->σc[j]?=some (some v)->(∃ k,(x,k)∈scope.names)->∃ i:Nat,X.N[i]?=some x/\σ[i]?=some (some v)/\Vis X.env.scope x/\(x,bK)∈scope.names)
  (W:Addr->Nat->Nat->St->Hp->Prop) (Fin:Addr->Hp->Prop) (w0:∀ p,H p=none->∃ m,W p 0 m σc (upd H p (.lst [])))
  (turn:∀ p i m σ1 H1,W p i m σ1 H1->(J.stop i H1/\Fin p H1)\/(J.go i H1/\∀ x H2,J.yld i H1 x H2->g x σ1 H2 fun σ2 H3=>tt σ2 H3 fun b H4=>if b=true then te σ2 H4 fun y H5=>∃ xs,H5 p=some (.lst xs)/\xs.length < sizeLine/\∃ m',m' < m/\W p (i+1) m' σ2 (upd H5 p (.lst (xs++[y]))) else ∃ m',m' < m/\W p (i+1) m' σ2 H4))
  (RR:Value->Addr->Result->Shared->Prop)
  (hRR:∀ p L H' s',Fin p H'->(∃ m,s'.heap.Ns L m)->Kf X pins H' L->(∀ h',bA L s'.heap h'->Inv X pins σ H' { s' with heap:=h' })->RR (.ref p) L (.ok .next) s') :
  wpAny (model X.prog X.w) X.A (newList []) (fun acc s₃=>wpAny (model X.prog X.w) X.A (newFunctionEnv scope X.env.globals (QK X.env.cells scope.names []) [] X.env.qual none .none (some X.env)) (fun cenv s₄=>
   codeAny (model X.prog X.w) X.A (.compStart (.ListComp elt [⟨tg,iter,ifs,0⟩] scope pos) 0 (.ref it) acc { cenv with scope:=relabel scope X.env }) (RR acc cenv.locals) s₄) E s₃) E s:=by
 have hfo:∀ b∈fp,b < s.heap.objs.size:=fun b hb=>let ⟨o,e,_⟩:=T.obj 0 _ st0 b hb; ap e
 have hfresh:=I.fresh
 have I3:Inv X pins σ (upd H s.heap.objs.size (.lst [])) { s with heap:=s.heap.push { cls:=.type "list",data:=.seq ([]:List Value).toArray } }:=I.lnew (t':=s.toks) (ys:=[]) (its:=[]) .nil (bt _)
 have hf3:∀ b∈fp,Kf X pins (upd H s.heap.objs.size (.lst [])) b:=fun b hb=>⟨by rw [qr (ay (hfo b hb))]; exact (hf b hb).1,(hf b hb).2⟩
 have st3:tn 0 (s.heap.push { cls:=.type "list",data:=.seq ([]:List Value).toArray }):=T.keep 0 _ _ st0 fun b hb o e=>aa _ e
 refine wpAny_newObj_type (wpAny_newFunctionEnv S.nocell (fun y hy=>by simp at hy) (fun h₁ hns₁ hsb₁=>?_) S.kind)
 dsimp only at hns₁ hsb₁ ⊢
 generalize hs3:({ s with heap:=s.heap.push { cls:=.type "list",data:=.seq ([]:List Value).toArray } }:Shared)=s3 at I3
 have e3:s3.heap=s.heap.push { cls:=.type "list",data:=.seq ([]:List Value).toArray }:=by rw [<-hs3]
 rw [<-e3] at hns₁ hsb₁ st3 ⊢
 have keep:∀ b o,s3.heap.get? b=some o->h₁.get? b=some o:=fun b o e=>(hsb₁.2 b (ay (ap e))).trans (aa _ e)
 have ho3:∀ b∈fp,b < s3.heap.objs.size:=fun b hb=>by rw [e3,bT]; exact dg (hfo b hb)
 have J1:Inv (jN X scope N fp s3.heap.objs.size s3 (upd H s.heap.objs.size (.lst []))) [] σc (upd H s.heap.objs.size (.lst [])) { s3 with heap:=h₁,toks:=s.toks+0 }:=
  Gb I3 S hf3 ho3 (by simpa using hns₁) keep hl hσ
 have st4:tn 0 h₁:=T.keep 0 _ _ st3 fun b hb o e=>keep b o e
 have loop:∀ s4:Shared,s4={ s3 with heap:=h₁,toks:=s.toks+0 }->codeAny (model X.prog X.w) X.A (.compLoop (.ListComp elt [⟨tg,iter,ifs,0⟩] scope pos) 0 (.ref it) (.ref s.heap.objs.size) (compEnvC scope (QK X.env.cells scope.names []) s3.heap.objs.size X.env)) (RR (.ref s.heap.objs.size) s3.heap.objs.size) s4:=by
  rintro s4 rfl
  generalize hY:jN X scope N fp s3.heap.objs.size s3 (upd H s.heap.objs.size (.lst []))=Y at J1
  have eP:Y.prog=X.prog:=by rw [<-hY]; rfl
  have ew:Y.w=X.w:=by rw [<-hY]; rfl
  have eA:Y.A=X.A:=by rw [<-hY]; rfl
  have ee:Y.env=compEnvC scope (QK X.env.cells scope.names []) s3.heap.objs.size X.env:=by rw [<-hY]; rfl
  have eK:Y.K=X.K:=by rw [<-hY]; rfl
  have ec:Y.calm=true:=by rw [<-hY]; exact hcalm
  have ex:Y.xe=fun _ _=>False:=by rw [<-hY]; rfl
  have hgY:PG Y tg g:=by rw [<-hY]; exact hg fp _ _ _
  have htY:PTs Y ifs tt:=by rw [<-hY]; exact ht fp _ _ _
  have heY:PE Y elt te:=by rw [<-hY]; exact he fp _ _ _
  have stat:∀ {H1:Hp},(∀ b∈fp,H1 b=none)->∀ b∈fp,Kf Y [] H1 b:=fun hn b hb=>by
   have q:=J1.ok.exf b (by rw [<-hY]; exact hb)
   refine ⟨hn b hb,q.1,J1.ok.exfs b (by rw [<-hY]; exact hb),.inl (by rw [<-hY]; exact hb),q.2,fun p hp=>?_⟩
   rw [<-hY] at hp
   exact absurd (show p∈([]:List (Addr×Obj)) from hp) (by simp)
  obtain ⟨m0,hm0⟩:=w0 s.heap.objs.size hfresh
  refine gP (fun n s'=>∃ i σ1 H1,Inv Y [] σ1 H1 s'/\tn i s'.heap/\(∀ b∈fp,H1 b=none)/\W s.heap.objs.size i n σ1 H1) ?_ m0 ⟨0,σc,_,J1,st4,fun b hb=>(hf3 b hb).1,hm0⟩
  rintro n s5 ⟨i,σ1,H1,J5,st5,fr5,w5⟩
  rw [<-eP,<-ew,<-eA,<-ee]
  have TY:Turn Y.prog Y.w Y.K tg J fp it tn:=by rw [eP,ew,eK]; exact T
  rcases turn _ i n σ1 H1 w5 with ⟨stop,fin⟩ | ⟨go,step⟩
  ·refine thn (TY.done Y rfl rfl rfl ec i [] s5 σ1 H1 _ J5 (stat fr5) st5 stop) fun r s6 ⟨hr,J6⟩=>?_
   subst hr
   have J6':Inv (jN X scope N fp s3.heap.objs.size s3 (upd H s.heap.objs.size (.lst []))) [] σ1 H1 s6:=by rw [hY]; exact J6
   exact hRR _ _ H1 s6 fin (let ⟨m,hn,_⟩:=J6'.loc; ⟨m,hn⟩) (I3.fpOk (ax _) J6'.free) fun h' sb=>Gc (s1:=s6) (H1:=H1) (L:=0) I3 hf3 J6' sb
  ·refine thn (TY.item Y rfl rfl rfl ec i [] s5 σ1 H1 _ J5 (stat fr5) st5 go) fun r s6 ⟨u,hr,h6⟩=>?_
   subst hr
   refine thn h6 fun _ s7 ⟨x,H7,J7,r7,y7,st7,fr7⟩=>?_
   have J7':=J7.pinned (stat fr7) (TY.obj _ _ st7)
   have back:∀ {σ9:St} {H9:Hp} {s9:Shared},Inv Y ([]++QP fp s7.heap) σ9 H9 s9->(∃ m',m' < n/\W s.heap.objs.size (i+1) m' σ9 H9)->∃ m,m < n/\∃ i σ1 H1,Inv Y [] σ1 H1 s9/\tn i s9.heap/\(∀ b∈fp,H1 b=none)/\W s.heap.objs.size i m σ1 H1:=fun {σ9 H9 s9} J9 ⟨m',hm,w9⟩=>by
    refine ⟨m',hm,i+1,σ9,H9,J9.unpinned,TY.keep _ _ _ st7 fun b hb o e=>(J9.pin (b,o) (aU _ (aU _ (wV hb e)))).1,fun b hb=>?_,w9⟩
    obtain ⟨o,e,d⟩:=TY.obj _ _ st7 b hb
    exact (J9.pin (b,o) (aU _ (aU _ (wV hb e)))).2.1
   rw [<-ex]
   refine thn (hgY _ s7 σ1 H7 x u _ J7' r7 (step x H7 y7)) fun _ s8 ⟨σ8,H8,J8,q8⟩=>?_
   refine thn (htY _ s8 σ8 H8 _ J8 q8) fun ok s9 ⟨H9,J9,q9⟩=>?_
   cases ok with
   | false=>exact back J9 q9
   | true=>
    refine thn (heY _ s9 σ8 H9 _ J9 q9) fun v s10 ⟨y,H10,J10,r10,xs,hx,hlen,q10⟩=>?_
    exact thn (xF _ s10 σ8 H10 (.ref s.heap.objs.size) [y] (.ref s.heap.objs.size) [v] (fun _ H11=>∃ m',m' < n/\W s.heap.objs.size (i+1) m' σ8 H11) J10 rfl (.cons r10 .nil) ⟨_,xs,y,rfl,rfl,hx,hlen,q10⟩) fun _ s11 ⟨_,H11,J11,_,q11⟩=>back J11 q11
 have e4:({ heap:=h₁,gens:=s.gens,drawn:=s.drawn,toks:=s.toks+([]:List (Str×Value)).length,os:=s.os }:Shared)={ s3 with heap:=h₁,toks:=s.toks+0 }:=by rw [<-hs3]; rfl
 exact codeAny_compStart_list (loop _ e4) (T.self _ 0 _ _ _ st4 (loop _ e4))
end
noncomputable def kH (nt:Nat) (cap:List Nat) (ρ:List (Option α)):List (Option α):=au nt none++cap.map fun k=>(ρ[k]?).getD none
noncomputable def uF (own:List Nat):Nat->List Nat->List Nat
 | _,[]=>[]
 | n,k::cap=>if k∈own then n::uF own (n+1) cap else uF own (n+1) cap
noncomputable def ioC (nt len:Nat):List Nat:=(bg len).map (nt + ·)
noncomputable def jA (own:List Nat) (ρc:Sl):Nat->List Nat->Sl->Sl
 | _,[],ρ=>ρ
 | n,k::cap,ρ=>if k∈own then jA own ρc (n+1) cap (ρ.set k ((ρc[n]?).getD none)) else jA own ρc (n+1) cap ρ
variable {nt:Nat} {cap:List Nat}
theorem get_cap {ρ:List (Option α)} {d:α}:(kH nt cap ρ)[i]?=some (some d)↔∃ j k,i=nt+j/\cap[j]?=some k/\ρ[k]?=some (some d):=by
 unfold kH
 constructor
 ·intro h
  by_cases hi:i < nt
  ·rw [ci (by simpa using hi),bf] at h
   split at h <;> cases h
  ·rw [bB (by simpa using hi),cE,aY] at h
   cases q:cap[i - nt]? with
   | none=>rw [q] at h; cases h
   | some k=>
    rw [q] at h
    have h:(ρ[k]?).getD none=some d:=br.inj h
    refine ⟨i - nt,k,by omega,q,?_⟩
    cases q2:ρ[k]? with
    | none=>rw [q2] at h; cases h
    | some o=>rw [q2] at h; exact congrArg some h
 ·rintro ⟨j,k,rfl,h1,h2⟩
  rw [bB (by simp),cE,aY,show nt+j - nt=j by omega,h1]
  simp [h2]
theorem mem_ownC {own:List Nat}:∀ {n:Nat} {cap:List Nat} {i:Nat},i∈uF own n cap↔∃ j k,i=n+j/\cap[j]?=some k/\k∈own
 | n,[],i=>by simp [uF]
 | n,k::cap,i=>by
  have ih:=@mem_ownC own (n+1) cap i
  unfold uF
  by_cases hk:k∈own
  ·rw [if_pos hk,ac,ih]
   constructor
   ·rintro (rfl | ⟨j,k',e,h1,h2⟩)
    ·exact ⟨0,k,rfl,rfl,hk⟩
    ·exact ⟨j+1,k',by omega,by simpa using h1,h2⟩
   ·rintro ⟨j,k',e,h1,h2⟩
    cases j with
    | zero=>exact .inl (by omega)
    | succ j=>exact .inr ⟨j,k',by omega,by simpa using h1,h2⟩
  ·rw [if_neg hk,ih]
   constructor
   ·rintro ⟨j,k',e,h1,h2⟩
    exact ⟨j+1,k',by omega,by simpa using h1,h2⟩
   ·rintro ⟨j,k',e,h1,h2⟩
    cases j with
    | zero=>simp at h1; subst h1; exact absurd h2 hk
    | succ j=>exact ⟨j,k',by omega,by simpa using h1,h2⟩
theorem mem_ioC {len:Nat}:i∈ioC nt len↔∃ j,j < len/\i=nt+j:=by
 unfold ioC
 rw [aH]
 constructor
 ·rintro ⟨j,h1,h2⟩; exact ⟨j,cB.mp h1,h2.symm⟩
 ·rintro ⟨j,h1,h2⟩; exact ⟨j,cB.mpr h1,h2.symm⟩
variable {ρc:Sl}
theorem yn:∀ {n:Nat} {cap:List Nat} {ρ:Sl},(jA own ρc n cap ρ).length=ρ.length
 | _,[],_=>rfl
 | n,k::cap,ρ=>by
  unfold jA
  by_cases hk:k∈own
  ·rw [if_pos hk,yn,bn]
  ·rw [if_neg hk,yn]
theorem kP:∀ {n:Nat} {cap:List Nat} {ρ:Sl} {i:Nat},¬(i∈cap/\i∈own)->(jA own ρc n cap ρ)[i]?=ρ[i]?
 | _,[],_,_,_=>rfl
 | n,k::cap,ρ,i,h=>by
  unfold jA
  have h':¬(i∈cap/\i∈own):=fun z=>h ⟨af _ z.1,z.2⟩
  by_cases hk:k∈own
  ·rw [if_pos hk,kP h',ad (fun e=>h ⟨ac.mpr (.inl e.symm),by rw [<-e]; exact hk⟩)]
  ·rw [if_neg hk,kP h']
theorem uS:∀ {n:Nat} {cap:List Nat} {ρ:Sl} {j k:Nat} {d:D},cap.Nodup->cap[j]?=some k->k∈own->k < ρ.length->ρc[n+j]?=some (some d)->(jA own ρc n cap ρ)[k]?=some (some d)
 | _,[],_,_,_,_,_,h,_,_,_=>by simp at h
 | n,k0::cap,ρ,0,k,d,nd,h,hk,hl,e=>by
  simp at h; subst h
  obtain ⟨n1,n2⟩:=aS.mp nd
  unfold jA
  rw [if_pos hk,kP (fun z=>n1 z.1),aF hl]
  have e:ρc[n]?=some (some d):=e
  rw [e]; rfl
 | n,k0::cap,ρ,j+1,k,d,nd,h,hk,hl,e=>by
  obtain ⟨n1,n2⟩:=aS.mp nd
  have h:cap[j]?=some k:=by simpa using h
  have e:ρc[n+1+j]?=some (some d):=by rw [show n+1+j=n+(j+1) by omega]; exact e
  unfold jA
  by_cases hk0:k0∈own
  ·rw [if_pos hk0]; exact uS n2 h hk (by rw [bn]; exact hl) e
  ·rw [if_neg hk0]; exact uS n2 h hk hl e
section
theorem Kz {ρ:List (Option α)}:(kH nt cap ρ).length=nt+cap.length:=by simp [kH]
theorem Yw {l:List Nat} (h:l.Nodup) {j k:Nat} (a:l[i]?=some k) (b:l[j]?=some k):i=j:=by
 obtain ⟨h1,e1⟩:=aE.mp a
 obtain ⟨h2,e2⟩:=aE.mp b
 exact (ff h).mp (e1.trans e2.symm)
theorem qbM (rp:Rep K own F H σ ρ) (nd:cap.Nodup):Rep K (uF own nt cap) F H (kH nt cap σ) (kH nt cap ρ) where
 sub:=rp.sub
 len:=by rw [Kz,Kz]
 val:=fun i d hi e=>by
  obtain ⟨j,k,rfl,h1,h2⟩:=get_cap.mp e
  obtain ⟨v,g1,g2⟩:=rp.val k d (fun z=>hi (mem_ownC.mpr ⟨j,k,rfl,h1,z⟩)) h2
  exact ⟨v,get_cap.mpr ⟨j,k,rfl,h1,g1⟩,g2⟩
 ow:=fun i d hi e=>by
  obtain ⟨j,k,rfl,h1,h2⟩:=get_cap.mp e
  obtain ⟨j',k',e',h1',h2'⟩:=mem_ownC.mp hi
  have:j=j':=by omega
  subst this
  rw [h1] at h1'; cases h1'
  obtain ⟨a,g1,g2⟩:=rp.ow k d h2' h2
  exact ⟨a,get_cap.mpr ⟨j,k,rfl,h1,g1⟩,g2⟩
 opn:=fun i hi=>by
  obtain ⟨j,k,rfl,h1,h2⟩:=mem_ownC.mp hi
  obtain ⟨d,e⟩:=rp.opn k h2
  exact ⟨d,get_cap.mpr ⟨j,k,rfl,h1,e⟩⟩
 dis:=fun i i' a hi hi' e e'=>by
  obtain ⟨j,k,rfl,h1,h2⟩:=mem_ownC.mp hi
  obtain ⟨j',k',rfl,h1',h2'⟩:=mem_ownC.mp hi'
  obtain ⟨x,y,q1,q2,q3⟩:=get_cap.mp e
  obtain ⟨x',y',q1',q2',q3'⟩:=get_cap.mp e'
  have:x=j:=by omega
  subst this
  have:x'=j':=by omega
  subst this
  rw [h1] at q2; cases q2
  rw [h1'] at q2'; cases q2'
  have e:=rp.dis k k' a h2 h2' q3 q3'
  subst e
  rw [Yw nd h1 h1']
theorem Yx (hio:∀ i∈ioC nt cap.length,σ1[i]?=(kH nt cap σ)[i]?) (h:OA (uF own nt cap) σ1 b):OA own σ b:=by
 obtain ⟨i,hi,e⟩:=h
 obtain ⟨j,k,rfl,h1,h2⟩:=mem_ownC.mp hi
 rw [hio _ (mem_ioC.mpr ⟨j,(aE.mp h1).1,rfl⟩)] at e
 obtain ⟨x,y,q1,q2,q3⟩:=get_cap.mp e
 have:x=j:=by omega
 subst this
 rw [h1] at q2; cases q2
 exact ⟨k,h2,q3⟩
theorem Yy (rp:Rep K own F H σ ρ) (nd:cap.Nodup) (rp1:Rep K (uF own nt cap) F' H' σ1 ρ1) (hio:∀ i∈ioC nt cap.length,σ1[i]?=(kH nt cap σ)[i]?) (c:Chg (OA (uF own nt cap) σ1) F H F' H'):Rep K own F' H' σ (jA own ρ1 nt cap ρ) where
 sub:=rp1.sub
 len:=by rw [yn]; exact rp.len
 val:=fun i d hi e=>by
  rw [kP (fun z=>hi z.2)] at e
  obtain ⟨v,h1,h2⟩:=rp.val i d hi e
  exact ⟨v,h1,h2.mono c.grow⟩
 ow:=fun i d hi e=>by
  by_cases q:i∈cap
  ·obtain ⟨j,hj⟩:=List.getElem?_of_mem q
   have hm:nt+j∈uF own nt cap:=mem_ownC.mpr ⟨j,i,rfl,hj,hi⟩
   obtain ⟨d',hd'⟩:=rp1.opn _ hm
   obtain ⟨d0,hd0⟩:=rp.opn i hi
   rw [uS nd hj hi (aE.mp hd0).1 hd'] at e
   cases e
   obtain ⟨a,h1,h2⟩:=rp1.ow _ _ hm hd'
   rw [hio _ (mem_ioC.mpr ⟨j,(aE.mp hj).1,rfl⟩)] at h1
   obtain ⟨x,y,q1,q2,q3⟩:=get_cap.mp h1
   have:x=j:=by omega
   subst this
   rw [hj] at q2; cases q2
   exact ⟨a,q3,h2⟩
  ·rw [kP (fun z=>q z.1)] at e
   obtain ⟨a,h1,h2,h3⟩:=rp.ow i d hi e
   have na:¬OA (uF own nt cap) σ1 a:=fun z=>by
    obtain ⟨i',hi',e'⟩:=z
    obtain ⟨j,k,rfl,g1,g2⟩:=mem_ownC.mp hi'
    rw [hio _ (mem_ioC.mpr ⟨j,(aE.mp g1).1,rfl⟩)] at e'
    obtain ⟨x,y,q1,q2,q3⟩:=get_cap.mp e'
    have:x=j:=by omega
    subst this
    rw [g1] at q2; cases q2
    have e:=rp.dis i k a hi g2 h1 q3
    subst e
    exact q (dl g1)
   refine ⟨a,h1,?_,h3.grow c.grow fun o z=>c.keep a o z na⟩
   cases qq:F' a with
   | none=>rfl
   | some u=>
    rcases c.new a (by rw [qq]; simp) with z | z | z
    ·exact absurd h2 z
    ·exact absurd z h3.there
    ·exact absurd z na
 opn:=fun i hi=>by
  by_cases q:i∈cap
  ·obtain ⟨j,hj⟩:=List.getElem?_of_mem q
   have hm:nt+j∈uF own nt cap:=mem_ownC.mpr ⟨j,i,rfl,hj,hi⟩
   obtain ⟨d',hd'⟩:=rp1.opn _ hm
   obtain ⟨d0,hd0⟩:=rp.opn i hi
   exact ⟨d',uS nd hj hi (aE.mp hd0).1 hd'⟩
  ·rw [kP (fun z=>q z.1)]
   exact rp.opn i hi
 dis:=rp.dis
end
noncomputable def gQ (g:D->Sl->Out Sl) (ft:Sl->Out (Bool×Sl)) (fe:Sl->Out (D×Sl)) (d:D) (ρ:Sl):Out (Option D×Sl):=
 (g d ρ).plain.bind fun ρ1=>(ft ρ1).plain.bind fun q=>if q.1=true then (fe q.2).plain.bind fun r=>.ok (some r.1,r.2) else .ok (none,q.2)
noncomputable def jY (g:D->Sl->Out Sl) (ft:Sl->Out (Bool×Sl)) (fe:Sl->Out (D×Sl)):List D->Sl->Out (List D×Sl)
 | [],ρ=>.ok ([],ρ)
 | d::ds,ρ=>(gQ g ft fe d ρ).bind fun p=>(jY g ft fe ds p.2).bind fun q=>.ok (p.1.toList++q.1,q.2)
noncomputable def jB (own:List Nat) (nt:Nat) (cap:List Nat) (fi:Sl->Out (List D×Sl)) (g:D->Sl->Out Sl) (ft:Sl->Out (Bool×Sl)) (fe:Sl->Out (D×Sl)):Sl->Out (D×Sl):=fun ρ=>(fi ρ).bind fun p=>
 if p.1.length<=sizeLine then (jY g ft fe p.1 (kH nt cap p.2)).bind fun q=>.ok (.lst q.1,jA own q.2 nt cap p.2) else .bad
noncomputable def ctC (C:Ct) (nt len:Nat):Ct:=⟨C.K,C.cv,fun _ _ _=>False,ioC nt len,.sh,[],[],fun _ h=>absurd h (by simp)⟩
noncomputable def ftT:Sl->Out (Bool×Sl):=fun ρ=>.ok (true,ρ)
theorem jn:PTs Y [] (tT C own ftT):=⟨fun pins s σ H Q I ⟨F,ρ,rp,h⟩=>qbL pins s σ H Q I (h F H rp .refl)⟩
structure CW (C:Ct) (own:List Nat) (nt:Nat) (cap:List Nat) (σ:St) (F H F0:Hp) (g:D->Sl->Out Sl) (ft:Sl->Out (Bool×Sl)) (fe:Sl->Out (D×Sl)) (ds ys:List D) (ρe:Sl) (p:Addr) (i:Nat) (σ1:St) (H1:Hp) (F1:Hp) (ρi:Sl) (accD:List D) (xs:List V) (rest:List D):Prop where
 rep:Rep C.K (uF own nt cap) F1 H1 σ1 ρi
 io:∀ i∈ioC nt cap.length,σ1[i]?=(kH nt cap σ)[i]?
 chg:Chg (OA (uF own nt cap) σ1) F H F1 H1
 gr:Same F0 F1
 at_:H1 p=some (.lst xs)
 nF:F1 p=none
 is:IsL C.K F1 xs accD
 le:accD.length<=i
 run:jY g ft fe (ds.drop i) ρi=.ok (rest,ρe)
 all:accD++rest=ys
variable {ρe:Sl}
theorem Ue {rest:List D} (h:jY g ft fe (d::ds) ρ=.ok (rest,ρe)) :
  ∃ ρ1,g d ρ=.ok ρ1/\∃ b ρ2,ft ρ1=.ok (b,ρ2)/\((b=true/\∃ y ρ3 r,fe ρ2=.ok (y,ρ3)/\jY g ft fe ds ρ3=.ok (r,ρe)/\rest=y::r)\/(b=false/\jY g ft fe ds ρ2=.ok (rest,ρe))):=by
 unfold jY gQ at h
 cases q1:g d ρ with
 | exc c=>rw [q1] at h; cases h
 | bad=>rw [q1] at h; cases h
 | ok ρ1=>
  rw [q1] at h
  refine ⟨ρ1,rfl,?_⟩
  simp only [Out.plain,Out.ok_bind] at h
  cases q2:ft ρ1 with
  | exc c=>rw [q2] at h; cases h
  | bad=>rw [q2] at h; cases h
  | ok p=>
   obtain ⟨b,ρ2⟩:=p
   rw [q2] at h
   refine ⟨b,ρ2,rfl,?_⟩
   simp only [Out.plain,Out.ok_bind] at h
   cases b with
   | true=>
    refine .inl ⟨rfl,?_⟩
    simp only [if_true] at h
    cases q3:fe ρ2 with
    | exc c=>rw [q3] at h; cases h
    | bad=>rw [q3] at h; cases h
    | ok p=>
     obtain ⟨y,ρ3⟩:=p
     rw [q3] at h
     simp only [Out.plain,Out.ok_bind] at h
     cases q4:jY g ft fe ds ρ3 with
     | exc c=>rw [q4] at h; cases h
     | bad=>rw [q4] at h; cases h
     | ok p=>
      obtain ⟨r,ρ4⟩:=p
      rw [q4] at h
      simp only [Out.ok_bind] at h
      cases h
      exact ⟨y,ρ3,r,rfl,q4,rfl⟩
   | false=>
    refine .inr ⟨rfl,?_⟩
    simp only [ba,if_false,Out.ok_bind] at h
    cases q4:jY g ft fe ds ρ2 with
    | exc c=>rw [q4] at h; cases h
    | bad=>rw [q4] at h; cases h
    | ok p=>
     obtain ⟨r,ρ4⟩:=p
     rw [q4] at h
     simp only [Out.ok_bind] at h
     cases h
     rfl
section
variable {elt:Expr} {me:Mo}
structure CapOk (X:Cx) (scope:Scope) (N:List Str) (nt:Nat) (cap:List Nat):Prop where
 nd:cap.Nodup
 len:N.length=nt+cap.length
 at_:∀ (j k:Nat),cap[j]?=some k->∃ x,N[nt+j]?=some x/\X.N[k]?=some x/\((Vis X.env.scope x/\(x,bK)∈scope.names)\/∀ k',(x,k')∉scope.names)
theorem Jk {F:Hp} {ρ1:Sl} {it:Addr} {fp:List Addr} {tn:Nat->Heap->Prop} {J:It} {E:Value->Shared->Prop} {ds ys:List D} {ρe:Sl} (I:Inv X pins σ H s) (hcalm:X.calm=true) (S:ScOk X scope) (CO:CapOk X scope N nt cap)
  (T:Turn X.prog X.w X.K tg J fp it tn) (st0:tn 0 s.heap) (hf:∀ b∈fp,Kf X pins H b) (rp:Rep C.K own F H σ ρ1) (itI:ItIs C.K F J ds) (hz:ds.length<=sizeLine)
  (hg:∀ fp L s' H',PG (jN X scope N fp L s' H') tg (tGd (ctC C nt cap.length) (uF own nt cap) g)) (ht:∀ fp L s' H',PTs (jN X scope N fp L s' H') ifs (tT (ctC C nt cap.length) (uF own nt cap) ft))
  (he:∀ fp L s' H',PE (jN X scope N fp L s' H') elt (tE (ctC C nt cap.length) (uF own nt cap) me fe)) (hme:me≠.any)
  (hrun:jY g ft fe ds (kH nt cap ρ1)=.ok (ys,ρe)) (RR:Value->Addr->Result->Shared->Prop)
  (hRR:∀ p L s' F' H',H p=none->Rep C.K own F' H' σ (jA own ρe nt cap ρ1)->Chg (OA own σ) F H F' H'->F' p=none->OwnIs C.K F' H' p (.lst ys)->(∃ m,s'.heap.Ns L m)->Kf X pins H' L->(∀ h',bA L s'.heap h'->Inv X pins σ H' { s' with heap:=h' })->RR (.ref p) L (.ok .next) s') :
  wpAny (model X.prog X.w) X.A (newList []) (fun acc s₃=>wpAny (model X.prog X.w) X.A (newFunctionEnv scope X.env.globals (QK X.env.cells scope.names []) [] X.env.qual none .none (some X.env)) (fun cenv s₄=>
   codeAny (model X.prog X.w) X.A (.compStart (.ListComp elt [⟨tg,iter,ifs,0⟩] scope pos) 0 (.ref it) acc { cenv with scope:=relabel scope X.env }) (RR acc cenv.locals) s₄) E s₃) E s:=by
 have oaH:∀ {σ1:St} {b:Addr},(∀ i∈ioC nt cap.length,σ1[i]?=(kH nt cap σ)[i]?)->OA (uF own nt cap) σ1 b->H b≠none:=fun hio z=>(rp.OA_there (Yx hio z)).1
 refine Gd (σc:=kH nt cap σ) I hcalm S T st0 hf hg ht (fun fp L s' H'=>vg (he fp L s' H') hme) (by rw [Kz,CO.len]) (fun j x v e1 e2 e3=>?_)
  (fun p i m σ1 H1=>H p=none/\m=ds.length - i/\i<=ds.length/\∃ F1 ρi accD xs rest,CW C own nt cap σ F H F g ft fe ds ys ρe p i σ1 H1 F1 ρi accD xs rest)
  (fun p H1=>H p=none/\∃ σ1 F1 xs,Rep C.K (uF own nt cap) F1 H1 σ1 ρe/\(∀ i∈ioC nt cap.length,σ1[i]?=(kH nt cap σ)[i]?)/\Chg (OA (uF own nt cap) σ1) F H F1 H1/\H1 p=some (.lst xs)/\F1 p=none/\IsL C.K F1 xs ys) (fun p hp=>?_) ?_ RR ?_
 ·obtain ⟨j',k,rfl,h1,h2⟩:=get_cap.mp e2
  obtain ⟨y,g1,g2,g3⟩:=CO.at_ j' k h1
  rw [g1] at e1; cases e1
  obtain ⟨k',hk'⟩:=e3
  rcases g3 with ⟨g3,g4⟩ | g3
  ·exact ⟨k,g2,h2,g3,g4⟩
  ·exact absurd hk' (g3 k')
 ·obtain ⟨r1,c1,hF⟩:=qaC (C:=C) (u:=.lst []) (qbM (nt:=nt) rp CO.nd) hp
  exact ⟨ds.length,hp,by simp,bt _,F,kH nt cap ρ1,[],[],ys,r1,fun _ _=>rfl,c1.ofNo,Same.refl _,qm,hF,.nil,ax _,by simpa using hrun,rfl⟩
 ·rintro p i m σ1 H1 ⟨hp,rfl,hle,F1,ρi,accD,xs,rest,w⟩
  by_cases hlt:i < ds.length
  ·have hd:ds.drop i=ds[i]::ds.drop (i+1):=dB hlt
   have run:=w.run
   rw [hd] at run
   obtain ⟨ρa,ea,b,ρb,eb,hrest⟩:=Ue run
   have sub1:Same F H1:=w.gr.trans w.rep.sub
   refine .inr ⟨itI.go i H1 hlt sub1,fun x H2 y=>?_⟩
   obtain ⟨F2,c2,s2,is2⟩:=itI.yld i F1 H1 x H2 ds[i] (by simp [hlt]) w.gr w.rep.sub y
   have rp2:=w.rep.grow c2 s2
   have nop:∀ {σ9:St},(∀ i∈ioC nt cap.length,σ9[i]?=(kH nt cap σ)[i]?)->¬OA (uF own nt cap) σ9 p:=fun hio z=>oaH hio z hp
   have keepP:∀ {A:Addr->Prop} {Fa Ha Fb Hb:Hp} {zs:List V},Chg A Fa Ha Fb Hb->¬A p->Ha p=some (.lst zs)->Fa p=none->Hb p=some (.lst zs)/\Fb p=none:=fun {A Fa Ha Fb Hb zs} c na e1 e2=>by
    refine ⟨c.keep p _ e1 na,?_⟩
    cases q:Fb p with
    | none=>rfl
    | some u=>
     rcases c.new p (by rw [q]; simp) with z | z | z
     ·exact absurd e2 z
     ·rw [e1] at z; cases z
     ·exact absurd z na
   obtain ⟨at2,nF2⟩:=keepP c2 (fun z=>z) w.at_ w.nF
   refine ⟨F2,ρi,ds[i],rp2,is2,ρa,ea,fun σ3 rp3 oa3 io3=>?_⟩
   have io3':∀ i∈ioC nt cap.length,σ3[i]?=(kH nt cap σ)[i]?:=fun i hi=>(io3 i hi).trans (w.io i hi)
   refine ⟨F2,ρa,rp3,?_⟩
   rw [eb]
   intro F4 H4 rp4 c4
   obtain ⟨at4,nF4⟩:=keepP c4 (nop io3') at2 nF2
   have chg4:Chg (OA (uF own nt cap) σ3) F H F4 H4:=by
    have q1:Chg (OA own σ) F H F1 H1:=w.chg.mono fun b z=>Yx w.io z
    have mv:∀ {b},OA (uF own nt cap) σ1 b->OA (uF own nt cap) σ3 b:=fun {b} z=>by
     obtain ⟨i',hi',e'⟩:=z
     obtain ⟨j,k,rfl,g1,g2⟩:=mem_ownC.mp hi'
     have hm:nt+j∈ioC nt cap.length:=mem_ioC.mpr ⟨j,(aE.mp g1).1,rfl⟩
     exact ⟨nt+j,hi',by rw [io3' _ hm,<-w.io _ hm]; exact e'⟩
    exact ((w.chg.mono fun b z=>mv z).trans' c2.ofNo).trans' c4
   have gr4:Same F F4:=(w.gr.trans c2.grow).trans c4.grow
   have is4:IsL C.K F4 xs accD:=(w.is.mono c2.grow).mono c4.grow
   rcases hrest with ⟨rfl,y',ρc,r,ec,er,hr⟩ | ⟨rfl,er⟩
   ·rw [if_pos rfl]
    refine ⟨F4,ρb,rp4,?_⟩
    rw [ec]
    intro v F5 H5 rp5 c5 mo5
    obtain ⟨at5,nF5⟩:=keepP c5 (nop io3') at4 nF4
    have hlen:xs.length=accD.length:=is4.length
    refine ⟨xs,at5,by have:=w.le; omega,ds.length - (i+1),by omega,hp,rfl,hlt,F5,ρc,accD++[y'],xs++[v],r,?_⟩
    have cp:Chg (fun b=>b=p) F5 H5 F5 (upd H5 p (.lst (xs++[v]))):=⟨fun b o e n=>by rw [qr n]; exact e,fun b e=>by
     by_cases q:b=p
     ·rw [q,qm]; simp
     ·rw [qr q]; exact e,Same.refl _,fun b e=>.inl e⟩
    have sb5:Same F5 (upd H5 p (.lst (xs++[v]))):=fun b o e=>by rw [qr (qx e nF5)]; exact rp5.sub b o e
    have rp6:Rep C.K (uF own nt cap) F5 (upd H5 p (.lst (xs++[v]))) σ3 ρc:=by
     refine ⟨sb5,rp5.len,rp5.val,fun i d hi e=>?_,rp5.opn,rp5.dis⟩
     obtain ⟨a,h1,h2,h3⟩:=rp5.ow i d hi e
     have na:a≠p:=fun z=>by subst z; exact nop io3' ⟨i,hi,h1⟩
     exact ⟨a,h1,h2,h3.grow (Same.refl _) fun o z=>by rw [qr na]; exact z⟩
    refine ⟨rp6,io3',?_,(gr4.trans c5.grow),qm,nF5,(is4.mono c5.grow).append (.cons mo5 .nil),by simp only [am,ae,aq]; have:=w.le; omega,er,?_⟩
    ·exact (chg4.trans' c5).trans cp fun b z=>.inr (by rw [z]; exact hp)
    ·rw [dh,<-w.all,hr]; rfl
   ·rw [if_neg bX]
    exact ⟨ds.length - (i+1),by omega,hp,rfl,hlt,F4,ρb,accD,xs,rest,rp4,io3',chg4,gr4,at4,nF4,is4,by have:=w.le; omega,er,w.all⟩
  ·have e:i=ds.length:=by omega
   subst e
   have run:=w.run
   rw [fg] at run
   unfold jY at run
   cases run
   have ha:=w.all
   rw [bi] at ha
   subst ha
   exact .inl ⟨itI.stop _ H1 (ax _) (w.gr.trans w.rep.sub),hp,σ1,F1,xs,w.rep,w.io,w.chg,w.at_,w.nF,w.is⟩
 ·rintro p L H' s' ⟨hp,σ1,F1,xs,r1,io1,c1,e1,n1,is1⟩ hns hfp hinv
  exact hRR p L s' F1 H' hp (Yy rp CO.nd r1 io1 c1) (c1.mono fun b z=>Yx io1 z) n1 ⟨xs,e1,is1⟩ hns hfp hinv
theorem KA:∀ (ds:List D) (ρ:Sl) (c:Str) (o:Sl),jY g ft fe ds ρ≠.exc c o:=by
 intro ds
 induction ds with
 | nil=>intro ρ c o z; cases z
 | cons d ds ih=>
  intro ρ c o z
  unfold jY gQ at z
  cases q1:g d ρ with
  | exc c=>rw [q1] at z; cases z
  | bad=>rw [q1] at z; cases z
  | ok ρ1=>
   rw [q1] at z
   simp only [Out.plain,Out.ok_bind] at z
   cases q2:ft ρ1 with
   | exc c=>rw [q2] at z; cases z
   | bad=>rw [q2] at z; cases z
   | ok p=>
    rw [q2] at z
    simp only [Out.plain,Out.ok_bind] at z
    by_cases hb:p.1=true
    ·rw [if_pos hb] at z
     cases q3:fe p.2 with
     | exc c=>rw [q3] at z; cases z
     | bad=>rw [q3] at z; cases z
     | ok r=>
      rw [q3] at z
      simp only [Out.plain,Out.ok_bind] at z
      cases q4:jY g ft fe ds r.2 with
      | exc c=>exact ih _ _ _ q4
      | bad=>rw [q4] at z; cases z
      | ok t=>rw [q4] at z; cases z
    ·rw [if_neg hb] at z
     simp only [Out.ok_bind] at z
     cases q4:jY g ft fe ds p.2 with
     | exc c=>exact ih _ _ _ q4
     | bad=>rw [q4] at z; cases z
     | ok t=>rw [q4] at z; cases z
theorem Jl {α:Type} {Z:Out (D×Sl)->Prop} (rp:Rep C.K own F H σ ρ) (hb:¬Z .bad) (hx:∀ c ρ',Z (.exc c ρ')->∀ F' H',Same F' H'->UA C.K C.ox F' H' σ ρ'->Chg (OA own σ) F H F' H'->C.E (C.cv c) none H') (h:Z (jB own nt cap fi g ft fe ρ)) :
  tIt C own fi σ H fun J H1=>∃ ds ρ1 ys ρe F1,ds.length<=sizeLine/\jY g ft fe ds (kH nt cap ρ1)=.ok (ys,ρe)/\Rep C.K own F1 H1 σ ρ1/\Chg (OA own σ) F H F1 H1/\ItIs C.K F1 J ds/\Z (.ok (.lst ys,jA own ρe nt cap ρ1)):=by
 refine ⟨F,ρ,rp,?_⟩
 unfold jB at h
 cases q:fi ρ with
 | exc c=>rw [q] at h; exact hx c _ h
 | bad=>rw [q] at h; exact (hb h).elim
 | ok p=>
  obtain ⟨ds,ρ1⟩:=p
  rw [q] at h
  have h:Z (if ds.length<=sizeLine then (jY g ft fe ds (kH nt cap ρ1)).bind fun q=>.ok (.lst q.1,jA own q.2 nt cap ρ1) else .bad):=h
  by_cases z:ds.length<=sizeLine
  ·rw [if_pos z] at h
   cases q2:jY g ft fe ds (kH nt cap ρ1) with
   | exc c=>exact absurd q2 (KA _ _ _ _)
   | bad=>rw [q2] at h; exact (hb h).elim
   | ok p=>
    obtain ⟨ys,ρe⟩:=p
    rw [q2] at h
    exact fun J F1 H1 rp1 c1 it=>⟨ds,ρ1,ys,ρe,F1,z,q2,rp1,c1,it,h⟩
  ·rw [if_neg z] at h; exact (hb h).elim
theorem jG (hcalm:X.calm=true) (S:ScOk X scope) (CO:CapOk X scope N nt cap) (hi:PI X tg iter (tIt C own fi))
  (hg:∀ fp L s' H',PG (jN X scope N fp L s' H') tg (tGd (ctC C nt cap.length) (uF own nt cap) g)) (ht:∀ fp L s' H',PTs (jN X scope N fp L s' H') ifs (tT (ctC C nt cap.length) (uF own nt cap) ft))
  (he:∀ fp L s' H',PE (jN X scope N fp L s' H') elt (tE (ctC C nt cap.length) (uF own nt cap) me fe)) (hme:me≠.any:=by decide) (hs:∀ x,foldedSetIterable iter X.env x=pure x:=by intro _; rfl) :
  PE X (.ListComp elt [⟨tg,iter,ifs,0⟩] scope pos) (tE C own .fr (jB own nt cap fi g ft fe)):=by
 refine ⟨?_⟩
 intro pins s σ H Q I ⟨F,ρ,rp,h⟩
 rw [eval_ListComp]
 have main:=Jl (α:=Unit) (Z:=fun r=>Po C own .fr σ F H r Q) rp (fun z=>z) (fun c _ z=>z) h
 refine wpAny_comprehension_free (use:=none) rfl hs (gh (xP I S)) S.kind S.names (thn (hi pins s σ H _ I main) fun xv s1 h1=>thn h1 fun itv s2 h2=>?_)
 obtain ⟨it,fp,tn,J,H2,e,I2,T,st2,f2,ds,ρ1,ys,ρe,F1,hz,hrun,rp1,c1,itI,po⟩:=h2
 subst e
 refine Jk (RR:=fun acc C'=>compPost (model X.prog X.w) X.A X.xe none (EP X pins σ Q) acc C') I2 hcalm S CO T st2 f2 rp1 itI hz hg ht he hme hrun fun p L s' F' H' hp rp' c' nF o hns hfp hinv=>?_
 obtain ⟨m,hn⟩:=hns
 refine ⟨m,hn,fun h' sb=>⟨.ref p,H',hinv h' sb,rfl,?_⟩⟩
 refine po (.ref p) F' H' rp' (c1.trans' c') ⟨p,rfl,?_,nF,o⟩
 cases q:H p with
 | none=>rfl
 | some u=>exact absurd hp (c1.stay p (by rw [q]; simp))
theorem Wb {pos' spos:Pos} (hN:X.N.Nodup) (hix:X.N[i]?=some x) (hx:Loc X.env.scope x) (hcalm:X.calm=true) (S:ScOk X scope) (CO:CapOk X scope N nt cap) (hi:PI X tg iter (tIt C own fi))
  (hg:∀ fp L s' H',PG (jN X scope N fp L s' H') tg (tGd (ctC C nt cap.length) (uF own nt cap) g)) (ht:∀ fp L s' H',PTs (jN X scope N fp L s' H') ifs (tT (ctC C nt cap.length) (uF own nt cap) ft))
  (he:∀ fp L s' H',PE (jN X scope N fp L s' H') elt (tE (ctC C nt cap.length) (uF own nt cap) me fe)) (hme:me≠.any:=by decide) (hio:i∉C.io:=by exact uo rfl)
  (hsw:swapsWith (.ListComp elt [⟨tg,iter,ifs,0⟩] scope pos) (some (.Name x pos')) spos.line X.env=pure true:=by rfl) (hs:∀ x,foldedSetIterable iter X.env x=pure x:=by intro _; rfl)
  (hfx:X.fn x=true\/X.env.scope.names.lookup x=some .local:=by first | exact .inl rfl | exact .inr rfl) :
  PS X (.Assign [.Name x pos'] (.ListComp elt [⟨tg,iter,ifs,0⟩] scope pos) spos) (tSt C own (i::vU own [i]) (wm i (jB own nt cap fi g ft fe))):=by
 refine ⟨?_⟩
 intro pins s σ H D I ⟨F,ρ,rp,h⟩
 rw [exec_Assign_Name_used _ _ _ _ hsw]
 refine wpAny_bind (wpAny_standAt (wpAny_bind ?_))
 show wpAny _ X.A (do let _ <-comprehension (.ListComp elt [⟨tg,iter,ifs,0⟩] scope pos) scope X.env _ (newList []) false (eval iter X.env) (some (assign (.Name x pos') X.env))) _ _ s
 have main:=Jl (α:=Unit) (Z:=fun r=>PoS C own (i::vU own [i]) σ F H (r.bind fun p=>if i < p.2.length then .ok (.nx,p.2.set i (some p.1)) else .bad) D) rp (fun z=>z) (fun c _ z=>z) h
 refine wpAny_bind (wpAny_mono (wpAny_comprehension_free (use:=some (assign (.Name x pos') X.env)) (Q:=fun _ s'=>SP X pins D .next s') rfl hs (gh (xP I S)) S.kind S.names (thn (hi pins s σ H _ I main) fun xv s1 h1=>thn h1 fun itv s2 h2=>?_)) (fun _ s' hq=>wpAny_pure (wpAny_pure hq)) fun _ _ e=>e)
 obtain ⟨it,fp,tn,J,H2,e,I2,T,st2,f2,ds,ρ1,ys,ρe,F1,hz,hrun,rp1,c1,itI,po⟩:=h2
 subst e
 refine Jk (RR:=fun acc C'=>compPost (model X.prog X.w) X.A X.xe (some (assign (.Name x pos') X.env)) (fun _ s'=>SP X pins D .next s') acc C') I2 hcalm S CO T st2 f2 rp1 itI hz hg ht he hme hrun fun p L s' F' H' hp rp' c' nF o hns hfp hinv=>?_
 obtain ⟨m,hn⟩:=hns
 have I3:Inv X pins σ H' s':=by simpa using hinv s'.heap (.refl ..)
 have hH:H p=none:=by
  cases q:H p with
  | none=>rfl
  | some u=>exact absurd hp (c1.stay p (by rw [q]; simp))
 show wpAny _ X.A (assign (.Name x pos') X.env (.ref p)) _ _ s'
 refine wpAny_assign_Name (QN I3 hN hix hx (v:=.ref p) rfl (fun s4 I4 ⟨a,sba,ha⟩=>?_) hfx)
 obtain ⟨f0,f1,f2',f3,f4,f5⟩:=hfp
 have nL:L≠a:=by
  rcases ha with z | z
  ·rw [z]; exact f1
  ·exact fun q=>f4 x a z q.symm
 refine ⟨m,hn.sameBut sba nL,fun h' sb=>?_⟩
 have I5:Inv X pins (σ.set i (some (.ref p))) H' { s4 with heap:=h' }:=by
  have:=I4.turned (h':=h') (t':=s4.toks) (it:=L) (fun b o hb e=>(sb.2 b hb).trans e) f0 f1 f3 f4 f5
  exact this
 refine ⟨_,H',I5,?_⟩
 have po:PoS C own (i::vU own [i]) σ F H (if i < (jA own ρe nt cap ρ1).length then .ok (.nx,(jA own ρe nt cap ρ1).set i (some (.lst ys))) else .bad) D:=po
 by_cases z:i < (jA own ρe nt cap ρ1).length
 ·rw [if_pos z] at po
  refine po _ F' H' ⟨rp'.putO z nF (fun y=>(rp.OA_there y).1 hH) o,c1.trans' c',fun b y=>?_,fun j hj=>ad fun y=>hio (by rw [y]; exact hj)⟩
  obtain ⟨j,hj,e⟩:=y
  by_cases qj:j=i
  ·subst qj
   rw [aF (by rw [rp'.len]; exact z)] at e
   cases e
   exact .inr hH
  ·have hj':=(qT j).mp ((ac.mp hj).resolve_left qj)
   rw [ad (aX qj)] at e
   exact .inl ⟨j,hj'.1,e⟩
 ·rw [if_neg z] at po; exact po.elim
end
def Fly (h:Heap) (ex T:Addr) (cls:Value):Prop:=∃ oe vs oT ts,h.get? ex=some oe/\oe.cls=cls/\oe.data=.fields vs/\vs[1]?=some (.ref T)/\T≠ex/\h.get? T=some oT/\oT.data=.fields ts/\ts[3]?=some .none
def CXk (P:Program) (w:World):CXT:=fun outer H s E e s'=>∃ ex T C H',e=.ref ex/\s'.os=s.os/\AllBare s'.gens/\Un (frs outer) [] H H' s.heap s'.heap/\HOk P w H' s'.heap/\Fly s'.heap ex T (.ref C)/\H' ex=none/\H' T=none/\s.heap.get? ex=none/\s.heap.get? T=none/\E (.ref C) none H'
def InB (X:Cx) (H:Hp) (s:Shared) (ex:Addr) (cls:Value):Prop:=H ex=none/\X.s₀.heap.get? ex=none /\
 ((∃ oe vs,s.heap.get? ex=some oe/\oe.cls=cls/\oe.data=.fields vs/\vs[1]?=some .none)\/∃ T,Fly s.heap ex T cls/\H T=none/\X.s₀.heap.get? T=none)
variable {ex:Addr} {T0:Option Addr} {h2:Heap}
section
variable {cls:Value}
theorem InB.dat (h:InB X H s ex cls):∃ oe vs,s.heap.get? ex=some oe/\oe.cls=cls/\oe.data=.fields vs:=by
 rcases h.2.2 with ⟨oe,vs,a,b,c,_⟩ | ⟨T,⟨oe,vs,oT,ts,a,b,c,_⟩,_⟩
 ·exact ⟨oe,vs,a,b,c⟩
 ·exact ⟨oe,vs,a,b,c⟩
noncomputable def uT (ex:Addr) (T:Option Addr) (X:Cx):List Addr:=ex::(T.toList++frs X.stack)
theorem uU (I:Inv X pins σ H s) (hb:b∈frs X.stack):∃ o,s.heap.get? b=some o/\∀ vs,o.data≠.fields vs:=(I.stack.mem hb).2
theorem Jm (hs:X.stack=X.env::X.outer):∀ env∈X.stack,∀ b,env.frame=some b->b∈frs X.stack:=fun env he b hb=>eQ.mpr ⟨env,he,hb⟩
structure Gone (X:Cx) (H:Hp) (s:Shared) (ex:Addr) (cls:Value) (h2:Heap):Prop where
 keep:∀ b o,s.heap.get? b=some o->H b≠none\/(X.s₀.heap.get? b≠none/\b∉frs X.stack)->h2.get? b=some o
 slot:∀ b o,s.heap.get? b=some o->b∈frs X.stack->∃ sl,h2.get? b=some { o with slots:=sl }
 ok:HOk X.prog X.w H h2
 un:Un (frs X.stack) [] H H s.heap h2\/True
theorem Yz {h2:Heap} (I:Inv X pins σ H s) (hex:H ex=none) (hT:∀ T,T0=some T->H T=none) (n1:X.s₀.heap.get? ex=none) (n2:∀ T,T0=some T->X.s₀.heap.get? T=none)
  (st:(bj s.heap (uT ex T0 X)).StaysIn h2) (sl:∀ b o,s.heap.get? b=some o->(∀ vs,o.data≠.fields vs)->∃ sl,h2.get? b=some { o with slots:=sl }):Gone X H s ex cls h2:=by
 have keep:∀ b o,s.heap.get? b=some o->b≠ex->(∀ T,T0=some T->b≠T)->b∉frs X.stack->h2.get? b=some o:=fun b o e h1 h2 h3=>st b o (cP _ e fun hm=>by
  rcases ac.mp hm with q | hm
  ·exact h1 q
  ·rcases bc.mp hm with q | q
   ·exact h2 b (Option.mem_toList.mp q) rfl
   ·exact h3 q)
 have k1:∀ b o,s.heap.get? b=some o->H b≠none->h2.get? b=some o:=fun b o e hn=>keep b o e (fun q=>hn (by rw [q]; exact hex)) (fun T hT' q=>hn (by rw [q]; exact hT T hT')) fun q=>hn (I.stkFree b q)
 refine ⟨fun b o e hb=>?_,fun b o e hb=>?_,fun b u e=>?_,.inr trivial⟩
 ·rcases hb with hb | ⟨hb,hf⟩
  ·exact k1 b o e hb
  ·exact keep b o e (fun q=>hb (by rw [q]; exact n1)) (fun T hT' q=>hb (by rw [q]; exact n2 T hT')) hf
 ·obtain ⟨o',e',nf⟩:=uU I hb
  rw [e] at e'; cases e'
  exact sl b o e nf
 ·refine (I.hok b u e).stay (fun c v hc q=>k1 c v q ?_) (fun _ q=>q) fun _ _ q=>q
  rcases hc with z | z
  ·rw [z,e]; simp
  ·rw [z]; simp
theorem Jn (I:Inv X pins σ H s) (hT:∀ T,T0=some T->H T=none) (n2:∀ T,T0=some T->X.s₀.heap.get? T=none) (g:Gone X H s ex cls h2) (hex0:X.ex=[])
  (tr:h2.Traced (bj s.heap (uT ex T0 X)) ex cls):∃ T,Fly h2 ex T cls/\H T=none/\X.s₀.heap.get? T=none:=by
 obtain ⟨oe,vs,T,oT,ts,a1,a2,a3,a4,a5,a6,a7,a8,a9⟩:=tr
 have noS:∀ o,s.heap.get? T=some o->(∃ q,T0=some q/\T=q):=fun o e=>by
  have hm:T∈uT ex T0 X:=by
   refine Classical.byContradiction fun hn=>?_
   rw [cP _ e hn] at a5
   cases a5
  rcases ac.mp hm with q | hm
  ·exact absurd q a6
  ·rcases bc.mp hm with q | q
   ·exact ⟨T,Option.mem_toList.mp q,rfl⟩
   ·obtain ⟨o',e',nf⟩:=uU I q
    obtain ⟨sl,e2⟩:=g.slot T o' e' q
    rw [a7] at e2
    cases e2
    exact absurd a8 (nf ts)
 refine ⟨T,⟨oe,vs,oT,ts,a1,a2,a3,a4,a6,a7,a8,a9⟩,?_,?_⟩
 ·cases q:H T with
  | none=>rfl
  | some u=>
   have hlt:=I.hok.lt q
   obtain ⟨o,e⟩:∃ o,s.heap.get? T=some o:=by
    have:=(I.hok T u q)
    have st:=this.stay (H':=H) (h':=s.heap) (fun b v _ z=>z) (fun _ z=>z) fun _ _ z=>z
    cases z:s.heap.get? T with
    | some o=>exact ⟨o,rfl⟩
    | none=>
     exfalso
     cases u with
     | lst xs=>obtain ⟨_,_,_,_,e⟩:=st; rw [z] at e; cases e
     | tup xs=>obtain ⟨_,_,_,_,e,_⟩:=st; rw [z] at e; cases e
     | dK kvs=>obtain ⟨_,_,_,_,o,_,_,e,_⟩:=st; rw [z] at e; cases e
     | dT kvs=>obtain ⟨_,_,_,_,o,_,_,e,_⟩:=st; rw [z] at e; cases e
     | set S n=>obtain ⟨o,_,_,_,e,_⟩:=st; rw [z] at e; cases e
     | ins C dx fs=>obtain ⟨_,_,_,e,_⟩:=st; rw [z] at e; cases e
     | own y=>obtain ⟨_,e⟩:=st; rw [z] at e; cases e
     | xd fs=>obtain ⟨_,⟨_,_,_,e,_⟩,_⟩:=st; rw [z] at e; cases e
     | rng lo hi=>obtain ⟨_,_,_,e⟩:=st; rw [z] at e; cases e
     | frz ob u=>obtain ⟨e,_⟩:=st; rw [z] at e; cases e
     | tbl ps=>have e:s.heap.get? T=some _:=st; rw [z] at e; cases e
     | met f y=>have e:s.heap.get? T=some _:=st; rw [z] at e; cases e
     | ext φ=>obtain ⟨_,⟨_,e⟩,_⟩:=st; rw [z] at e; cases e
   obtain ⟨q',hq',rfl⟩:=noS o e
   rw [hT _ hq'] at q; cases q
 ·cases q:X.s₀.heap.get? T with
  | none=>rfl
  | some o=>
   obtain ⟨o',e'⟩:=I.base.there T o q (by rw [hex0]; simp)
   obtain ⟨q',hq',rfl⟩:=noS o' e'
   rw [n2 _ hq'] at q; cases q
theorem Uf {E:Value->Shared->Prop} {Q:Unit->Shared->Prop} (I:Inv X pins σ H s) (hstk:X.stack=X.env::X.outer) (hfr:X.env.frame=some X.env.locals) (hex0:X.ex=[]) (x:InB X H s ex cls)
  (k:∀ h2 T,Gone X H s ex cls h2->Fly h2 ex T cls->H T=none->X.s₀.heap.get? T=none->Q () { s with heap:=h2 }):wpAny (model X.prog X.w) X.A (leaving X.env (.ref ex)) Q E s:=by
 obtain ⟨hex,n1,hx⟩:=x
 have hF:X.A.frames=some (X.env::X.outer):=by rw [I.ok.frames,hstk]
 have hB:∀ as,(bj s.heap as).StaysIn s.heap:=fun as b o e=>dO as e
 have hl:∀ T0,s.heap.FunFrames (bj s.heap (uT ex T0 X)) (X.env::X.outer):=fun T0=>by
  rw [<-hstk]
  exact PySem.W.funFrames_hide I.stack fun env he b hb=>af _ (aU _ (Jm hstk env he b hb))
 have hn:∀ T0,(bj s.heap (uT ex T0 X)).get? ex=none:=fun T0=>cJ _ (ac.mpr (.inl rfl))
 rcases hx with ⟨oe,vs,a1,a2,a3,a4⟩ | ⟨T,⟨oe,vs,oT,ts,a1,a2,a3,a4,a5,a6,a7,a8⟩,hT,n2⟩
 ·refine wpAny_leaving_first (base:=bj s.heap (uT ex none X)) hF (hl none) hfr a1 (hB _) (hn none) a3 a4 fun h2 ⟨st,_,tr,sl⟩=>?_
  have g:Gone X H s ex cls h2:=Yz I hex (T0:=none) (fun _ z=>nomatch z) n1 (fun _ z=>nomatch z) st sl
  rw [a2] at tr
  obtain ⟨T',f1,f2,f3⟩:=Jn I (T0:=none) (fun _ z=>nomatch z) (fun _ z=>nomatch z) g hex0 tr
  exact k h2 T' g f1 f2 f3
 ·have hT':∀ T1,some T=some T1->H T1=none:=fun T1 z=>by cases z; exact hT
  have n2':∀ T1,some T=some T1->X.s₀.heap.get? T1=none:=fun T1 z=>by cases z; exact n2
  have tr0:s.heap.Traced (bj s.heap (uT ex (some T) X)) ex cls:=⟨oe,vs,T,oT,ts,a1,a2,a3,a4,cJ _ (af _ (cm _ (by simp))),a5,a6,a7,a8⟩
  refine wpAny_leaving_next (base:=bj s.heap (uT ex (some T) X)) hF (hl (some T)) hfr tr0 (hB _) (hn _) fun h2 ⟨st,_,tr,sl⟩=>?_
  have g:Gone X H s ex cls h2:=Yz I hex hT' n1 n2' st sl
  obtain ⟨T',f1,f2,f3⟩:=Jn I hT' n2' g hex0 tr
  exact k h2 T' g f1 f2 f3
end
variable {A:Around} {P:Program} {w:World} {mg:Str->Option Value} {base h:Heap} {qual:Str} {cd:Value} {outer:List Env} {s0:Shared}
section
variable {f:Addr} {E:XK}
abbrev cxk (P:Program) (w:World) (K:Frag) (mg:Str->Option Value) (base:Heap) (N:List Str) (qual:Str) (scope:Scope) (f:Addr) (cd:Value) (A:Around) (outer:List Env) (s0:Shared) (H0:Hp) (E:XK):Cx:=Zr (CXk P w) P w K mg base N qual scope f cd A outer s0 H0 E
theorem qdt {C:Addr} (I:Inv (cxk P w K mg base N qual scope f cd A outer s0 H0 E) pins σ H s) (x:InB (cxk P w K mg base N qual scope f cd A outer s0 H0 E) H s ex (.ref C)) (hE:E (.ref C) none H) :
  (cxk P w K mg base N qual scope f cd A outer s0 H0 E).xe (.ref ex) s:=by
 refine Uf I rfl rfl rfl x fun h2 T g fl hT nT=>?_
 have bs0:=I.base
 have neL:∀ b o,s0.heap.get? b=some o->b≠(cxk P w K mg base N qual scope f cd A outer s0 H0 E).env.locals:=fun b o e=>ay (aO (ap e) I.ok.above)
 have nst:∀ b o,s0.heap.get? b=some o->b∉frs outer->b∉frs (cxk P w K mg base N qual scope f cd A outer s0 H0 E).stack:=fun b o e hb z=>by
  rcases ac.mp (I.stkSub b z) with q | q
  ·exact neL b o e q
  ·exact hb q
 have ist:∀ b,b∈frs outer->b∈frs (cxk P w K mg base N qual scope f cd A outer s0 H0 E).stack:=fun b hb=>by
  show b∈frs (_::outer)
  unfold frs
  rw [bz]
  exact af _ hb
 refine ⟨ex,T,C,H,rfl,I.os,I.bare,⟨fun b o e n hb hx=>?_,fun b o e n hb hx=>?_,bs0.free,fun b o e hx=>?_,bs0.tups,bs0.frzs,bs0.tbls⟩,g.ok,fl,x.1,hT,x.2.1,nT,hE⟩
 ·exact g.keep b o (bs0.keep b o e n hb hx) (.inr ⟨by show s0.heap.get? b≠none; rw [e]; simp,nst b o e hb⟩)
 ·obtain ⟨sl,q⟩:=bs0.slot b o e n hb hx
  obtain ⟨sl2,q2⟩:=g.slot b _ q (ist b hb)
  exact ⟨sl2,q2⟩
 ·obtain ⟨o',q⟩:=bs0.there b o e hx
  by_cases hb:b∈frs (cxk P w K mg base N qual scope f cd A outer s0 H0 E).stack
  ·obtain ⟨sl,q2⟩:=g.slot b o' q hb
   exact ⟨_,q2⟩
  ·exact ⟨o',g.keep b o' q (.inr ⟨by show s0.heap.get? b≠none; rw [e]; simp,hb⟩)⟩
theorem qbN {e:Value} (hex0:X.ex=[]) (I:Inv X pins σ H s) (h:CXk X.prog X.w X.stack H s E e s'):∃ ex C H',e=.ref ex/\Inv X pins σ H' s'/\InB X H' s' ex (.ref C)/\E (.ref C) none H':=by
 obtain ⟨ex,T,C,H',rfl,os,bare,un,hok,fl,e1,e2,n1,n2,hE⟩:=h
 have old:∀ b,s.heap.get? b=none->X.s₀.heap.get? b=none:=fun b hb=>by
  cases q:X.s₀.heap.get? b with
  | none=>rfl
  | some o=>
   obtain ⟨o',e'⟩:=I.base.there b o q (by rw [hex0]; simp)
   rw [hb] at e'; cases e'
 exact ⟨ex,C,H',rfl,I.call' (ch:=[]) os un hok bare (fun b z=>absurd z (by simp)),⟨e1,old ex n1,.inr ⟨T,fl,e2,old T n2⟩⟩,hE⟩
theorem qQ:kC (CXk P w) (cxk P w K mg base N qual scope f cd A outer s0 H0 E) E:=fun pins σ H s e s' I h=>by
 obtain ⟨ex,C,H',rfl,I',x,hE⟩:=qbN rfl I h
 exact qdt I' x hE
theorem qbO {C:Addr} {bmB:List Value} {newId:String} (kin:K.In h) (hm:mg x=some (.ref C)) (q:dI K C bmB newId=true):OwnCls x C bmB newId mg h:=by
 refine ⟨hm,?_⟩
 unfold dI at q
 split at q
 case h_2=>cases q
 case h_1 dd cd sl lk=>
  split at q
  case h_2=>cases q
  case h_1 C' bm a0 a1 a2 a3 n a5 em es=>
   have q':=q
   simp only [aP,beq_iff_eq,Bool.not_eq_true'] at q'
   obtain ⟨⟨⟨⟨⟨e1,e2⟩,nodel⟩,tl⟩,nsok⟩,noinit⟩:=q'
   obtain ⟨nm,bs,mro,ns,qn,hd,sn,sub,ab,col,del⟩:=cd
   dsimp only at em nodel nsok noinit
   obtain ⟨sll⟩:=sl
   dsimp only at es
   subst em nodel es e1 e2
   exact ⟨bm,ns,nm,qn,bs,hd,sn,sub,ab,col,dd,a0,a1,a2,a3,a5,_,kin _ _ lk,.of_isNs (PySem.W.isNs_of_in kin nsok),PySem.W.nsMap_none_of_in kin nsok noinit,PySem.W.tail_of_in kin tl⟩
end
theorem qaG {T:Addr} (hok:HOk P w H h) (q:H T=some u):∃ o,h.get? T=some o:=by
 have st:=hok T u q
 cases z:h.get? T with
 | some o=>exact ⟨o,rfl⟩
 | none=>
  exfalso
  cases u with
  | lst xs=>obtain ⟨_,_,_,_,e⟩:=st; rw [z] at e; cases e
  | tup xs=>obtain ⟨_,_,_,_,e,_⟩:=st; rw [z] at e; cases e
  | dK kvs=>obtain ⟨_,_,_,_,o,_,_,e,_⟩:=st; rw [z] at e; cases e
  | dT kvs=>obtain ⟨_,_,_,_,o,_,_,e,_⟩:=st; rw [z] at e; cases e
  | set S n=>obtain ⟨o,_,_,_,e,_⟩:=st; rw [z] at e; cases e
  | ins C dx fs=>obtain ⟨_,_,_,e,_⟩:=st; rw [z] at e; cases e
  | own y=>obtain ⟨_,e⟩:=st; rw [z] at e; cases e
  | xd fs=>obtain ⟨_,⟨_,_,_,e,_⟩,_⟩:=st; rw [z] at e; cases e
  | rng lo hi=>obtain ⟨_,_,_,e⟩:=st; rw [z] at e; cases e
  | frz ob u=>obtain ⟨e,_⟩:=st; rw [z] at e; cases e
  | tbl ps=>have e:h.get? T=some _:=st; rw [z] at e; cases e
  | met f y=>have e:h.get? T=some _:=st; rw [z] at e; cases e
  | ext φ=>obtain ⟨_,⟨_,e⟩,_⟩:=st; rw [z] at e; cases e
abbrev bmV:List Value:=[.type "ValueError",.type "Exception",.type "BaseException",.type "object"]
noncomputable def ky (x:Str) (fr:Sl->Out (List D×Sl)):Sl->Out (Fl×Sl):=fun ρ=>(fr ρ).bind fun p=>.exc x p.2
theorem PoS.bindA {as:List AK} {o:Out (List D×Sl)} {k:List D×Sl->Out (Fl×Sl)} {D:Ends} {R:List V->Hp->Prop} (hp:PoS C own own' σ F H (o.bind k) D)
  (h:∀ vs F1 H1 ds ρ1,Rep C.K own F1 H1 σ ρ1->Chg (OA own σ) F H F1 H1->ArgV C.K H F1 H1 σ as vs ds->PoS C own own' σ F1 H1 (k (ds,ρ1)) D->R vs H1):PoA C own as σ F H o R:=by
 cases o with
 | ok p=>
  obtain ⟨ds,ρ1⟩:=p
  exact fun vs F1 H1 rp c av=>h vs F1 H1 ds ρ1 rp c av (PoS.shift (show PoS C own own' σ F H (k (ds,ρ1)) D from hp) (.ofE rp c))
 | exc x=>exact hp
 | bad=>exact hp.elim
def YA (X:Cx) (C:Ct):Prop:=∀ (pins:List (Addr×Obj)) (σ:St) (H:Hp) (s:Shared) (ex A:Addr),Inv X pins σ H s->InB X H s ex (.ref A)->C.E (.ref A) none H->X.xe (.ref ex) s
theorem qdu {f:Addr}:YA (cxk P w K mg base N qual scope f cd A outer s0 H0 C.E) C:=fun pins σ H s ex A I x hE=>qdt I x hE
variable {Cc:Addr}
section
variable {fr:Sl->Out (List D×Sl)} {np cpos:Pos}
theorem ArgV.len:∀ {as:List AK} {vs:List V} {ds:List D},ArgV K H0 F H σ as vs ds->vs.length=as.length
 | [],[],[],_=>rfl
 | .vl::as,v::vs,d::ds,h=>congrArg (·+1) (ArgV.len h.2)
 | .sl i::as,v::vs,d::ds,h=>congrArg (·+1) (ArgV.len h.2.2)
 | .fr::as,v::vs,d::ds,h=>congrArg (·+1) (ArgV.len h.2)
 | [],_::_,_,h=>h.elim
 | [],[],_::_,h=>h.elim
 | .vl::_,[],_,h=>h.elim
 | .vl::_,_::_,[],h=>h.elim
 | .sl _::_,[],_,h=>h.elim
 | .sl _::_,_::_,[],h=>h.elim
 | .fr::_,[],_,h=>h.elim
 | .fr::_,_::_,[],h=>h.elim
theorem kq (hx0:X.ex=[]) (ht:YA X C) (hcalm:X.calm=true) (hg:Gl X x) (hm:X.mg x=some (.ref Cc)) (hcv:C.cv x=.ref Cc) (q:dI X.K Cc bmV "ValueError.__new__"=true) (ha:PA X (e::es) (tAr C own as fr)) (hsz:as.length<=1000:=by decide) (hio:∀ i∈C.ox,i∈own:=by exact wl rfl) (hd:(x == ("__debug__":Str))=false:=by decide)
  (he:starEach (e::es) X.env=(false,eval e X.env)::starEach es X.env:=by exact jk rfl) (hpl:(backTo cpos (starEach es X.env)).any (·.1)=false:=by rfl) :
  PS X (.Raise (some (.Call (.Name x np) (e::es) [] cpos)) none pos) (tSt C own own' (ky x fr)):=by
 refine ⟨?_⟩
 intro pins s σ H D I ⟨F,ρ,rp,h⟩
 obtain ⟨tl,N,nm,qn,bs,hdct,sn,sub,ab,col,dd,k0,k1,k2,k3,k5,mN,hC,hN,hni,T⟩:=(qbO I.ok.mod.kin hm q).obj
 refine wpAny_Raise_call_subT (C:=Cc) (nm:=nm) (q:=qn) (N:=N) (bs:=bs) (bm:=tl) (hdct:=hdct) (sn:=sn) (sub:=sub) (ab:=ab) (col:=col) (dd:=dd) (k0:=k0) (k1:=k1) (k2:=k2) (k3:=k3) (k5:=k5)
  PySem.F.excBase_ValueError (mN:=mN) (T.hasType PySem.F.excBase_ValueError.hasBase) (I.ok.hd hcalm) (by rw [he]; show (false||(backTo cpos (starEach es X.env)).any (·.1))=false; rw [hpl]; rfl) hni (xB I hg hm ⟨rfl,?_⟩ hd)
 have main:tAr C own as fr σ H fun vs H1=>vs.length<=sizeLine/\C.E (.ref Cc) none H1:=by
  refine ⟨F,ρ,rp,PoS.bindA h fun vs F1 H1 ds ρ1 rp1 c1 av h1=>⟨?_,?_⟩⟩
  ·rw [av.len]; exact bW hsz (by rw [sizeLine_eq]; decide)
  ·rw [<-hcv]; exact h1 F1 H1 rp1.sub (rp1.ioIs hio) .refl
 have run:=ha cpos pins s σ H _ I main
 rw [he] at run ⊢
 refine Calls.evalArgs_plain (wpAny_mono run (fun us s2 ⟨vs,H2,I2,r2,z2,hE⟩=>?_) fun _ _ y=>y)
 refine ⟨rfl,by rw [<-r2.length]; exact z2,I2.bk _ _ hC,hN.keeps I2.bk,T.keeps I2.bk,fun h' ex mk=>?_⟩
 have I3:Inv X pins σ H2 { s2 with heap:=h' }:=I2.kept (t':=s2.toks) mk.keeps
 obtain ⟨t,h1,h2,h3⟩:=mk.there
 refine ht pins σ H2 _ ex Cc I3 ⟨?_,?_,.inl ⟨_,_,h1,rfl,rfl,rfl⟩⟩ hE
 ·cases q2:H2 ex with
  | none=>rfl
  | some u=>
   have hlt:=I2.hok.lt q2
   refine absurd mk.new ?_
   obtain ⟨o,e⟩:=qaG I2.hok q2
   rw [e]; simp
 ·cases q2:X.s₀.heap.get? ex with
  | none=>rfl
  | some o=>
   obtain ⟨o',e'⟩:=I2.base.there ex o q2 (by rw [hx0]; simp)
   rw [mk.new] at e'; cases e'
end
structure Caught (X:Cx) (pins:List (Addr×Obj)) (H:Hp) (s:Shared) (ex T Cc:Addr):Prop where
 fly:Fly s.heap ex T (.ref Cc)
 hex:H ex=none
 hT:H T=none
 n1:X.s₀.heap.get? ex=none
 n2:X.s₀.heap.get? T=none
 pp:∀ p∈X.pn++pins,p.1≠ex/\p.1≠T
variable {xe:Value->Shared->Prop}
section
variable {T:Addr}
theorem Caught.dex (c:Caught X pins H s ex T Cc):∃ oe vs,s.heap.get? ex=some oe/\oe.data=.fields vs:=let ⟨oe,vs,oT,ts,a1,a2,a3,_⟩:=c.fly; ⟨oe,vs,a1,a3⟩
theorem Caught.dT (c:Caught X pins H s ex T Cc):∃ oe vs,s.heap.get? T=some oe/\oe.data=.fields vs:=let ⟨oe,vs,oT,ts,a1,a2,a3,a4,a5,a6,a7,_⟩:=c.fly; ⟨oT,ts,a6,a7⟩
theorem Wc {h2:Heap} (I:Inv X pins σ H s) (hstk:X.stack=X.env::X.outer) (hfr:X.env.frame=some X.env.locals) (hx0:X.ex=[]) (c:Caught X pins H s ex T Cc)
  (keep:∀ b o,s.heap.get? b=some o->b≠ex->b≠T->b∉frs X.stack->h2.get? b=some o)
  (slot:∀ b o,s.heap.get? b=some o->b∈frs X.stack->∃ sl,h2.get? b=some { o with slots:=sl }):Inv X pins σ H { s with heap:=h2 }:=by
 obtain ⟨oe,ve,he,de⟩:=c.dex
 obtain ⟨oT,vT,hT,dT⟩:=c.dT
 have nf:∀ b o,s.heap.get? b=some o->(∀ vs,o.data≠.fields vs)->b≠ex/\b≠T:=fun b o e n=>by
  constructor
  ·rintro rfl; rw [he] at e; cases e; exact n _ de
  ·rintro rfl; rw [hT] at e; cases e; exact n _ dT
 have Lm:X.env.locals∈frs X.stack:=by
  rw [hstk]; unfold frs; rw [bz,hfr]; exact aw
 have neL:∀ b o,X.s₀.heap.get? b=some o->b≠X.env.locals:=fun b o e=>ay (aO (ap e) I.ok.above)
 have nst:∀ b o,X.s₀.heap.get? b=some o->b∉X.fs->b∉frs X.stack:=fun b o e hb z=>by
  rcases ac.mp (I.stkSub b z) with q | q
  ·exact neL b o e q
  ·exact hb q
 have ist:∀ b,b∈X.fs->b∈frs X.stack:=fun b hb=>by
  rw [hstk]; unfold frs; rw [bz,hfr]; exact af _ hb
 have ne0:∀ b o,X.s₀.heap.get? b=some o->b≠ex/\b≠T:=fun b o e=>⟨(by rintro rfl; rw [c.n1] at e; cases e),(by rintro rfl; rw [c.n2] at e; cases e)⟩
 have kc:∀ {a:Addr} {v:Option Value},s.heap.IsCell a v->h2.IsCell a v:=fun {a v} ⟨oc,e1,e2⟩=>by
  have q:=nf a oc e1 fun vs z=>by rw [e2] at z; cases z
  by_cases hb:a∈frs X.stack
  ·obtain ⟨sl,z⟩:=slot a oc e1 hb
   exact ⟨_,z,e2⟩
  ·exact ⟨oc,keep a oc e1 q.1 q.2 hb,e2⟩
 refine ⟨I.ok,I.os,I.bare,⟨fun b o e n hb hx=>?_,fun b o e n hb hx=>?_,I.base.free,fun b o e hx=>?_,I.base.tups,I.base.frzs,I.base.tbls⟩,?_,fun x a e=>?_,I.free,I.freeC,fun p hp=>?_,fun b u e=>?_,I.len⟩
 ·exact keep b o (I.base.keep b o e n hb hx) (ne0 b o e).1 (ne0 b o e).2 (nst b o e hb)
 ·obtain ⟨sl,q⟩:=I.base.slot b o e n hb hx
  obtain ⟨sl2,q2⟩:=slot b _ q (ist b hb)
  exact ⟨sl2,q2⟩
 ·obtain ⟨o',q⟩:=I.base.there b o e hx
  by_cases hb:b∈frs X.stack
  ·obtain ⟨sl,z⟩:=slot b o' q hb
   exact ⟨_,z⟩
  ·exact ⟨o',keep b o' q (ne0 b o e).1 (ne0 b o e).2 hb⟩
 ·obtain ⟨m,⟨o,es,ep,ho,r⟩,hl⟩:=I.loc
  obtain ⟨sl,hL⟩:=slot _ o ho Lm
  refine ⟨m,⟨_,es,ep,hL,r⟩,fun i x v e1 e2 e3=>?_⟩
  obtain ⟨u,rv,lk⟩:=hl i x v e1 e2 e3
  refine ⟨u,rv,?_⟩
  rcases lk with z | ⟨k,a,e,z⟩
  ·exact .inl z
  ·exact .inr ⟨k,a,e,kc z⟩
 ·obtain ⟨v,z⟩:=I.cell x a e
  exact ⟨v,kc z⟩
 ·obtain ⟨a1,a2,a3,a4,a5⟩:=I.pin p hp
  refine ⟨keep p.1 p.2 a1 (c.pp p hp).1 (c.pp p hp).2 fun z=>?_,a2,a3,a4,a5⟩
  rcases ac.mp (I.stkSub p.1 z) with q | q
  ·exact a3 q
  ·exact a4 q
 ·refine (I.hok b u e).stay (fun d v hc q=>?_) (fun _ q=>q) fun _ _ q=>q
  have hd:H d≠none:=by
   rcases hc with z | z
   ·rw [z,e]; simp
   ·rw [z]; simp
  exact keep d v q (fun z=>hd (by rw [z]; exact c.hex)) (fun z=>hd (by rw [z]; exact c.hT)) fun z=>hd (I.stkFree d z)
theorem gi {a0:Value} (I:Inv X pins σ H s) (hx0:X.ex=[]) (c:Caught X pins H s ex T Cc) (slot:∀ b o,s.heap.get? b=some o->b∈frs X.stack->∃ sl,h2.get? b=some { o with slots:=sl })
  (tr:h2.TracedW (bj s.heap (uT ex (some T) X)) ex (.ref Cc) a0):∃ T',Caught X pins H { s with heap:=h2 } ex T' Cc:=by
 obtain ⟨oe,vs,T',oT,ts,b1,⟨b2,_⟩,b3,b4,b5,b6,b7,b8,b9⟩:=tr
 have noS:∀ o,s.heap.get? T'=some o->T'=T:=fun o e=>by
  have hm:T'∈uT ex (some T) X:=by
   refine Classical.byContradiction fun hn=>?_
   rw [cP _ e hn] at b5
   cases b5
  rcases ac.mp hm with q | hm
  ·exact absurd q b6
  ·rcases bc.mp hm with q | q
   ·simpa using q
   ·obtain ⟨o',e',nf⟩:=uU I q
    obtain ⟨sl,e2⟩:=slot T' o' e' q
    rw [b7] at e2
    cases e2
    exact absurd b8 (nf ts)
 refine ⟨T',⟨oe,vs,oT,ts,b1,b2,b3,b4,b6,b7,b8,b9⟩,c.hex,?_,c.n1,?_,fun p hp=>⟨(c.pp p hp).1,?_⟩⟩
 ·cases q:H T' with
  | none=>rfl
  | some u=>
   obtain ⟨o,e⟩:=qaG I.hok q
   rw [noS o e,c.hT] at q; cases q
 ·cases q:X.s₀.heap.get? T' with
  | none=>rfl
  | some o=>
   obtain ⟨o',e'⟩:=I.base.there T' o q (by rw [hx0]; simp)
   rw [noS o' e',c.n2] at q; cases q
 ·rintro rfl
  exact (c.pp p hp).2 (noS _ (I.pin p hp).1)
theorem gj (st:(bj s.heap (uT ex (some T) X)).StaysIn h2):∀ b o,s.heap.get? b=some o->b≠ex->b≠T->b∉frs X.stack->h2.get? b=some o:=fun b o e h1 h2 h3=>st b o (cP _ e fun hm=>by
  rcases ac.mp hm with q | hm
  ·exact h1 q
  ·rcases bc.mp hm with q | q
   ·exact h2 (by simpa using q)
   ·exact h3 q)
theorem Jo (c:Caught X pins H s ex T Cc):∃ a0,s.heap.TracedW (bj s.heap (uT ex (some T) X)) ex (.ref Cc) a0:=by
 obtain ⟨oe,vs,oT,ts,a1,a2,a3,a4,a5,a6,a7,a8⟩:=c.fly
 have hz:0 < vs.size:=Nat.lt_of_succ_lt (Array.getElem?_eq_some_iff.mp a4).1
 exact ⟨vs[0],oe,vs,T,oT,ts,a1,⟨a2,by simp [hz]⟩,a3,a4,cJ _ (af _ (cm _ (by simp))),a5,a6,a7,a8⟩
theorem gk (I:Inv X pins σ H s) (hstk:X.stack=X.env::X.outer):s.heap.FunFrames (bj s.heap (uT ex (some T) X)) (X.env::X.outer):=by
 rw [<-hstk]
 exact PySem.W.funFrames_hide I.stack fun env he b hb=>af _ (aU _ (Jm hstk env he b hb))
theorem YB {E:Value->Shared->Prop} {Q:Unit->Shared->Prop} (hA:A.frames=some X.stack) (I:Inv X pins σ H s) (hstk:X.stack=X.env::X.outer) (hfr:X.env.frame=some X.env.locals) (hx0:X.ex=[]) (c:Caught X pins H s ex T Cc)
  (k:∀ s' T',Inv X pins σ H s'->Caught X pins H s' ex T' Cc->Q () s'):wpAny (model X.prog X.w) A (noteFrame (.ref ex) X.env) (fun _ s1=>wpAny (model X.prog X.w) A (setFlight (.ref ex) none) Q E s1) E s:=by
 obtain ⟨a0,tr⟩:=Jo c
 refine wpAny_looks_onW (by rw [hA,hstk]) hfr ⟨fun b o e=>dO _ e,cJ _ (ac.mpr (.inl rfl)),gk I hstk,tr⟩ fun h1 held u1=>?_
 refine wpAny_landsW held fun h2 fl u2=>?_
 have slot:∀ b o,s.heap.get? b=some o->b∈frs X.stack->∃ sl,h2.get? b=some { o with slots:=sl }:=fun b o e hb=>by
  obtain ⟨o',e',nf⟩:=uU I hb
  rw [e] at e'; cases e'
  obtain ⟨sl,q⟩:=u1 b o e nf
  obtain ⟨sl2,q2⟩:=u2 b _ q nf
  exact ⟨sl2,q2⟩
 obtain ⟨T',c'⟩:=gi I hx0 c slot fl.2.2.2
 have I2:Inv X pins σ H { s with heap:=h2 }:=Wc I hstk hfr hx0 c (gj fl.1) slot
 exact k { s with heap:=h2 } T' I2 c'
theorem KB {A:Around} {E:Value->Shared->Prop} {Q:Unit->Shared->Prop} (I:Inv X pins σ H s) (hstk:X.stack=X.env::X.outer) (hfr:X.env.frame=some X.env.locals) (hx0:X.ex=[]) (c:Caught X pins H s ex T Cc)
  (k:∀ s' T',Inv X pins σ H s'->Caught X pins H s' ex T' Cc->Q () s'):wpAny (model X.prog X.w) A (setFlight (.ref ex) none) Q E s:=by
 obtain ⟨a0,tr⟩:=Jo c
 refine wpAny_setFlight_noneW (base:=bj s.heap (uT ex (some T) X)) (fun b o e=>dO _ e) (gk I hstk) tr fun h2 st _ tr2 kp=>?_
 have slot:∀ b o,s.heap.get? b=some o->b∈frs X.stack->∃ sl,h2.get? b=some { o with slots:=sl }:=fun b o e hb=>by
  obtain ⟨o',e',nf⟩:=uU I hb
  rw [e] at e'; cases e'
  exact ⟨o.slots,kp b o e nf⟩
 obtain ⟨T',c'⟩:=gi I hx0 c slot tr2
 exact k _ T' (Wc I hstk hfr hx0 c (gj st) slot) c'
theorem qe9 (I:Inv X pins σ H s) (c:Caught X pins H s ex T Cc):Inv X pins σ (upd H ex (VP ex Cc)) s:=by
 obtain ⟨oe,vs,oT,ts,a1,a2,a3,_⟩:=c.fly
 have nf:∀ b o,s.heap.get? b=some o->(∀ vs,o.data≠.fields vs)->b≠ex:=fun b o e n=>by
  rintro rfl; rw [a1] at e; cases e; exact n _ a3
 have up:∀ {b:Addr} {u:HO},H b=some u->upd H ex (VP ex Cc) b=some u:=fun {b u} e=>by rw [qr (qx e c.hex)]; exact e
 refine ⟨I.ok,I.os,I.bare,⟨I.base.keep,I.base.slot,fun b o e n hx=>?_,I.base.there,fun b xs e=>up (I.base.tups b xs e),fun b o u e=>up (I.base.frzs b o u e),fun b ps e=>?_⟩,I.loc,I.cell,?_,fun x a e=>?_,fun p hp=>?_,fun b u e=>?_,I.len⟩
 ·rw [qr (by rintro rfl; rw [c.n1] at e; cases e)]; exact I.base.free b o e n hx
 ·obtain ⟨more,z⟩:=I.base.tbls b ps e
  exact ⟨more,up z⟩
 ·obtain ⟨m,⟨o,es,ep,ho,hd,_⟩,_⟩:=I.loc
  rw [qr (nf _ o ho fun vs z=>by rw [hd] at z; cases z)]; exact I.free
 ·obtain ⟨v,oc,e1,e2⟩:=I.cell x a e
  rw [qr (nf _ oc e1 fun vs z=>by rw [e2] at z; cases z)]; exact I.freeC x a e
 ·obtain ⟨b1,b2,b3⟩:=I.pin p hp
  refine ⟨b1,?_,b3⟩
  rw [qr (c.pp p hp).1]; exact b2
 ·by_cases q:b=ex
  ·subst q
   rw [qm] at e; cases e
   refine ⟨⟨oe,vs,a1,a2,a3⟩,⟨oe,a1⟩,fun h1 h2 ⟨o1,v1,e1,e2,e3⟩ kk=>⟨o1,v1,kk _ e1,e2,e3⟩⟩
  ·rw [qr q] at e
   exact (I.hok b u e).stay (fun _ _ _ z=>z) (fun d z=>up z) fun d xs z=>up z
def KC (X:Cx) (pn:List (Addr×Obj)) (xe:Value->Shared->Prop):Cx:={ X with pn:=pn,xe:=xe }
theorem qbP (I:Inv X pins σ H s):Inv (KC X (X.pn++pins) xe) [] σ H s:=
 ⟨⟨I.ok.mod,I.ok.kind,I.ok.glob,I.ok.blt,I.ok.above,I.ok.inj,I.ok.has,I.ok.cab,I.ok.hd,I.ok.frames,I.ok.stk,I.ok.exf,I.ok.bs,I.ok.bsz,I.ok.noex,I.ok.exfs,I.ok.funs,I.ok.frf⟩,I.os,I.bare,I.base,I.loc,I.cell,I.free,I.freeC,fun p hp=>I.pin p (by simpa [KC] using hp),I.hok,I.len⟩
theorem wC {pins':List (Addr×Obj)} (I:Inv (KC X (X.pn++pins) xe) pins' σ H s):Inv X pins σ H s:=
 ⟨⟨I.ok.mod,I.ok.kind,I.ok.glob,I.ok.blt,I.ok.above,I.ok.inj,I.ok.has,I.ok.cab,I.ok.hd,I.ok.frames,I.ok.stk,I.ok.exf,I.ok.bs,I.ok.bsz,I.ok.noex,I.ok.exfs,I.ok.funs,I.ok.frf⟩,I.os,I.bare,I.base,I.loc,I.cell,I.free,I.freeC,fun p hp=>I.pin p (cm _ hp),I.hok,I.len⟩
noncomputable def qey (X:Cx) (e:Value):Cx:={ X with A:=X.A.mark (some e),calm:=false,xe:=fun _ _=>False }
theorem qaH {e:Value} (I:Inv X pins σ H s):Inv (qey X e) pins σ H s:=
 ⟨⟨I.ok.mod,I.ok.kind,I.ok.glob,I.ok.blt,I.ok.above,I.ok.inj,I.ok.has,I.ok.cab,fun z=>absurd z (by show ¬(false=true); exact bX),I.ok.frames,I.ok.stk,I.ok.exf,I.ok.bs,I.ok.bsz,I.ok.noex,I.ok.exfs,I.ok.funs,I.ok.frf⟩,I.os,I.bare,I.base,I.loc,I.cell,I.free,I.freeC,I.pin,I.hok,I.len⟩
theorem qbQ {e:Value} (hok:X.Ok) (I:Inv (qey X e) pins σ H s):Inv X pins σ H s:=
 ⟨hok,I.os,I.bare,I.base,I.loc,I.cell,I.free,I.freeC,I.pin,I.hok,I.len⟩
end
def qfa (C:Ct) (own:List Nat) (E:XK):Ct:=⟨C.K,C.cv,E,own,C.mr,C.ol,own,fun _ h=>h⟩
noncomputable def exC (C:Ct):Ct:=⟨C.K,C.cv,fun _ _ _=>False,[],C.mr,[],[],fun _ h=>h⟩
noncomputable def qaI (n:Nat) (j:Option Nat) (hit:Str->Option Addr) (fb fs:Sl->Out (Fl×Sl)):Sl->Out (Fl×Sl):=fun ρ=>match fb ρ with
 | .exc c ρe=>match hit c with
  | some Cc=>match fs (match j with | some j=>(au n none).set j (some (.xcp Cc)) | none=>au n none) with
   | .ok (.rt d,_)=>.ok (.rt d,ρe)
   | _=>.bad
  | none=>.bad
 | o=>o
def qfb (C:Ct) (own:List Nat) (σ:St) (F H:Hp) (r:Out (Fl×Sl)):XK:=fun cls _ H'=>∃ c ρe F',r=.exc c ρe/\cls=C.cv c/\Same F' H'/\UA C.K own F' H' σ ρe/\Chg (OA own σ) F H F' H'
def qfc (X:Cx) (pins:List (Addr×Obj)) (E:XK):Value->Shared->Prop:=fun e s'=>∃ σ ex T Cc H',e=.ref ex/\Inv X pins σ H' s'/\Caught X pins H' s' ex T Cc/\E (.ref Cc) none H'
section
variable {fs:Sl->Out (Fl×Sl)}
theorem Ug {E:XK} (hx0:X.ex=[]):kC (CXk X.prog X.w) (KC X (X.pn++pins) (qfc X pins E)) E:=fun pins' σ H s e s' I h=>by
 obtain ⟨ex,T,Cc,H',rfl,os,bare,un,hok,fl,e1,e2,n1,n2,hE⟩:=h
 have old:∀ b,s.heap.get? b=none->X.s₀.heap.get? b=none:=fun b hb=>by
  cases q:X.s₀.heap.get? b with
  | none=>rfl
  | some o=>
   obtain ⟨o',e'⟩:=I.base.there b o q (by show b∉X.ex; rw [hx0]; simp)
   rw [hb] at e'; cases e'
 have I2:Inv (KC X (X.pn++pins) (qfc X pins E)) pins' σ H' s':=I.call' (ch:=[]) os un hok bare (fun b z=>absurd z (by simp))
 refine ⟨σ,ex,T,Cc,H',rfl,wC I2,⟨fl,e1,e2,old ex n1,old T n2,fun p hp=>?_⟩,hE⟩
 have q:=(I.pin p (cm _ hp)).1
 exact ⟨fun z=>(by rw [z,n1] at q; cases q),fun z=>(by rw [z,n2] at q; cases q)⟩
theorem Nx.untry {E:XK} {σ':St} {ρ':Sl} (hsub:∀ i∈C.io,i∈own) (n:Nx (qfa C own E) o1 o2 σ F H ρ' σ' F' H'):Nx C o1 o2 σ F H ρ' σ' F' H':=⟨n.rep,n.chg,n.oa,fun i hi=>n.io i (hsub i hi)⟩
theorem Ge {D:Ends} {j:Option Nat} {hit:Str->Option Addr} (hsub:∀ i∈C.io,i∈own) (rp:Rep C.K own F H σ ρ) (h:PoS C own own' σ F H (qaI n j hit fb fs ρ) D):tSt (qfa C own (qfb C own σ F H (fb ρ))) own own' fb D σ H:=by
 refine ⟨F,ρ,rp,?_⟩
 unfold qaI at h
 cases q:fb ρ with
 | ok p=>
  rw [q] at h
  obtain ⟨fl,ρ'⟩:=p
  cases fl with
  | nx=>exact fun σ' F' H' nn=>h σ' F' H' (nn.untry hsub)
  | rt d=>exact fun v σ' F' H' s io c e mo=>h v σ' F' H' s (fun i hi=>io i (hsub i hi)) c (fun i hi=>e i (hsub i hi)) mo
  | bk=>exact fun σ' F' H' nn=>h σ' F' H' (nn.untry hsub)
  | ct=>exact fun σ' F' H' nn=>h σ' F' H' (nn.untry hsub)
 | exc c ρe=>exact fun F' H' s io ch=>⟨c,ρe,F',rfl,rfl,s,io,ch⟩
 | bad=>rw [q] at h; exact h.elim
theorem YC {F3 H3:Hp} {Cc:Addr} {D:Ends} {d:D2.D} {v:V} {σw:St} (hsub:∀ i∈C.io,i∈own) (h:PoS C own own' σ F H (.ok (.rt d,ρe)) D) (hn:H1 ex=none) (sb:Same F1 H1) (io:UA C.K own F1 H1 σ ρe) (ch:Chg (OA own σ) F H F1 H1)
  (s3:Same F3 H3) (c3:Chg (OA [] σw) (upd F1 ex (VP ex Cc)) (upd H1 ex (VP ex Cc)) F3 H3) (mo:MoIs C.K C.mr (upd H1 ex (VP ex Cc)) F3 H3 v d):D.rt v H3:=by
 obtain ⟨sb2,c2⟩:=uB (u:=VP ex Cc) sb hn
 have no:∀ {b},OA [] σw b->False:=fun ⟨i,hi,_⟩=>by simp at hi
 have c3':Chg No (upd F1 ex (VP ex Cc)) (upd H1 ex (VP ex Cc)) F3 H3:=c3.mono fun x z=>no z
 have c12:Chg No F1 H1 F3 H3:=c2.trans c3' fun _ z=>z.elim
 refine h v σ F3 H3 s3 (fun i hi=>?_) (ch.trans c12 fun _ z=>z.elim) (fun _ _=>rfl) (MoIs.back (Ha:=H3) (ch.trans c2 fun _ z=>z.elim) mo)
 obtain ⟨d',a,e1,e2,e3,e4⟩:=io i (hsub i hi)
 refine ⟨d',a,e1,e2,?_,e4.grow c12.grow fun o q=>c12.keep a o q fun z=>z⟩
 cases q:F3 a with
 | none=>rfl
 | some u=>
  rcases c12.new a (by rw [q]; simp) with z | z | z
  ·exact absurd e3 z
  ·exact absurd z e4.there
  ·exact z.elim
theorem Gf {cn:Str} {np hpos pos:Pos} {body suite:List Stmt} {b0:Stmt} {cls:Value} {n:Nat} {hit:Str->Option Addr} {own2:List Nat} (hx0:X.ex=[]) (hstk:X.stack=X.env::X.outer) (hfr:X.env.frame=some X.env.locals)
  (hg:Gl X cn) (hm:X.mg cn=some cls) (hhit:∀ c Cc,hit c=some Cc->C.cv c=.ref Cc/\bU X.K (.ref Cc) cls=some true) (hn:X.N.length=n)
  (hb:∀ pn xe E,kC (CXk X.prog X.w) (KC X pn xe) E->PSs (KC X pn xe) body (tSt (qfa C own E) own own' fb)) (hs:∀ e,PSs (qey X e) (b0::suite) (tSt (exC C) [] own2 fs)) (hsub:∀ i∈C.io,i∈own:=by exact wl rfl) (hd:(cn == ("__debug__":Str))=false:=by decide) :
  PS X (.Try body [.ExceptHandler (some (.Name cn np)) none (b0::suite) hpos] [] [] pos) (tSt C own own' (qaI n none hit fb fs)):=by
 refine ⟨?_⟩
 intro pins s σ H D I ⟨F,ρ,rp,h⟩
 have run:=hb (X.pn++pins) (qfc X pins (qfb C own σ F H (fb ρ))) (qfb C own σ F H (fb ρ)) (Ug hx0) [] s σ H D (qbP I) (Ge hsub rp h)
 refine wpAny_Try_except (wpAny_mono run (fun f s1 hf=>?_) fun e s1 he=>?_)
 ·cases f with
  | next=>
   obtain ⟨σ',H',I',q⟩:=hf
   exact UE pins s1 σ' H' D (wC I') q
  | brk=>obtain ⟨σ',H',I',q⟩:=hf; exact ⟨σ',H',wC I',q⟩
  | cont=>obtain ⟨σ',H',I',q⟩:=hf; exact ⟨σ',H',wC I',q⟩
  | ret u=>obtain ⟨v,σ',H',I',r,q⟩:=hf; exact ⟨v,σ',H',wC I',r,q⟩
 ·obtain ⟨σ1,ex,T,Cc,H1,rfl,I1,c1,c,ρe,F1,hr,hcls,sb1,io1,ch1⟩:=he
  refine YB I1.ok.frames I1 hstk hfr hx0 c1 fun s2 T2 I2 c2=>?_
  unfold qaI at h
  rw [hr] at h
  cases qh:hit c with
  | none=>simp only [qh] at h; exact h.elim
  | some Ch=>
   simp only [qh] at h
   obtain ⟨hc1,hc2⟩:=hhit c Ch qh
   rw [hc1] at hcls
   obtain rfl:Cc=Ch:=by injection hcls
   refine wpAny_handleBy_cons (codeAny_handlers_test (xB (X:=qey X (.ref ex)) (qaH I2) hg hm ?_ hd)) (by intro q; cases q)
   obtain ⟨oe,vs,oT,ts,a1,a2,a3,_⟩:=id c2.fly
   have LT:PySem.W.Looks (model X.prog X.w) s2.heap (typeOf (.ref ex)) (.ref Cc):=by rw [<-a2]; exact (PySem.W.Looks.ld a1).andThen .now
   refine (PySem.W.exm_one I2.kIn LT hc2) _ _ _ _ (fun _ _ z=>z) ?_
   refine codeAny_handlers_suite (KB I2 hstk hfr hx0 c2 fun s3 T3 I3 c3=>?_)
   have I4:=qe9 I3 c3
   have I6:Inv X pins (au n none) (upd H1 ex (VP ex Cc)) s3:=I4.weak (by simp [I3.len,hn]) fun i v e=>by
    rw [bf] at e
    split at e <;> cases e
   obtain ⟨sb2,cc2⟩:=uB (u:=VP ex Cc) sb1 c1.hex
   have rp6:Rep C.K [] (upd F1 ex (VP ex Cc)) (upd H1 ex (VP ex Cc)) (au n none) (au n none):=by
    refine ⟨sb2,by simp,fun i d hi e=>?_,fun i d hi=>by simp at hi,fun i hi=>by simp at hi,fun i j a hi=>by simp at hi⟩
    rw [bf] at e
    split at e <;> cases e
   have main:tSt (exC C) [] own2 fs { nx:=fun _ _=>False,rt:=D.rt } (au n none) (upd H1 ex (VP ex Cc)):=by
    refine ⟨_,_,rp6,?_⟩
    cases qs:fs (au n none) with
    | ok p=>
     obtain ⟨fl,ρ5⟩:=p
     rw [qs] at h
     cases fl with
     | rt d=>exact fun v σ' F3 H3 s3 io c3 e mo=>YC (own':=own') (D:=D) (ex:=ex) (Cc:=Cc) hsub h c1.hex sb1 io1 ch1 s3 c3 mo
     | nx=>exact h.elim
     | bk=>exact h.elim
     | ct=>exact h.elim
    | exc _ _=>rw [qs] at h; exact h.elim
    | bad=>rw [qs] at h; exact h.elim
   refine wpAny_mono (hs (.ref ex) pins s3 _ _ _ (qaH I6) main) (fun f s7 hf=>?_) fun _ _ z=>z.elim
   cases f with
   | next=>obtain ⟨_,_,_,q⟩:=hf; exact q.elim
   | brk=>obtain ⟨_,_,_,q⟩:=hf; exact q.elim
   | cont=>obtain ⟨_,_,_,q⟩:=hf; exact q.elim
   | ret u=>
    obtain ⟨v,σ7,H7,I7,r7,q7⟩:=hf
    exact ⟨v,σ7,H7,qbQ I.ok I7,r7,q7⟩
end
structure RoomQ (k:Nat) (A:Around):Prop where
 dp:A.depth+3 * k+5 < recursionLimit
 un:A.units+16 * k+200 < cLine
theorem RoomQ.mark {k:Nat} (r:RoomQ k A) (e:Option Value):RoomQ k (A.mark e):=⟨r.dp,r.un⟩
def DefOk (P:Program) (w:World) (K:Frag) (mg:Str->Option Value) (base:Heap) (cv:Str->Value) (k:Nat) (x:Str) (ps:List Str) (ms:List PM) (mr:Mo) (G:List D->Out (D×List D)):Prop:=
 ∃ f fd,FnOk P w K mg base (CXk P w) k f fd ps (spD K cv ms mr G)/\mg x=some (.ref f)/\keepIn K (.ref f)=true/\Binds K fd ps []
def jO (K:Frag) (mg:Str->Option Value) (x:Str) (st:Stmt) (ps:List Str):Prop:=∃ f fd,Fun K x x st f fd/\mg x=some (.ref f)/\Binds K fd ps []
theorem qU {P:Program} {w:World} {base:Heap} {cv:Str->Value} {k:Nat} {ms:List PM} {mr:Mo} {own':List Nat} {fb:Sl->Out (Fl×Sl)} (T:jO K mg x st ps) (S:FnScope N ps (qd st))
  (hbody:∀ (cdv:Value) (f:Addr) (A:Around) (outer:List Env) (s:Shared) (H:Hp) (E:XK),Room k (A.deeper (envOfC x (qd st) s.heap.objs.size f cdv)) ->
   PSs (cxk P w K mg base N x (qd st) f cdv A outer s H E) (jz st) (tSt (Ki K cv E ms mr) (jv 0 ms) own' fb))
  (hl:ms.length=ps.length:=by rfl) (hsub:∀ i∈Jh 0 ms,i∈own':=by exact wl rfl) (hmr:mr=.sh\/∀ ds ρ,(fb (qv N ds))≠.ok (.nx,ρ):=by exact .inl rfl):DefOk P w K mg base cv (k+1) x ps ms mr (vE N ms fb):=by
 obtain ⟨f,fd,F,hm,hb⟩:=T
 exact ⟨f,fd,qfJ F S hl hsub hmr (fun cdv A outer s H E hr=>hbody cdv f A outer s H E hr) fun _=>.inr rfl,hm,F.kp,hb⟩
variable {cv:Str->Value}
theorem DefOk.by {k:Nat} {G':List D->Out (D×List D)} (h:DefOk P w K mg base cv k x ps ms mr G) (e:∀ ds,Out.le (G' ds) (G ds)):DefOk P w K mg base cv k x ps ms mr G':=by
 obtain ⟨f,fd,F,r⟩:=h
 refine ⟨f,fd,F.imp fun vs H Q E ⟨F1,ds,sb,ar,nd,po⟩=>⟨F1,ds,sb,ar,nd,?_⟩,r⟩
 rcases e ds with z | z
 ·rw [z] at po; exact po.elim
 ·rw [<-z]; exact po
section
variable {fr:Sl->Out (List D×Sl)} {p:Pos} {k j:Nat}
theorem qt (F:DefOk X.prog X.w X.K X.mg X.base cv j x ps ms mr G) (hr:Room k X.A) (hj:j<=k) (hx:kC (CXk X.prog X.w) X C.E) (hg:Gl X x) (ha:PA X (e::es) (tAr C own as fr)) (hcv:C.cv=cv:=by rfl) (hK:C.K=X.K:=by rfl) (hms:ms=as.map wA:=by rfl) (hs:∀ i∈jl as,i∈own:=by decide) (nd:(jl as).Nodup:=by decide) (hf:frA as<=1:=by decide) (hio:∀ i∈C.ox,i∈own:=by exact wl rfl)
  (hdb:(x == ("__debug__":Str))=false:=by decide) (he:starEach (e::es) X.env=(false,eval e X.env)::starEach es X.env:=by exact jk rfl) (hpl:(backTo pos (starEach es X.env)).any (·.1)=false:=by exact wX rfl):PE X (.Call (.Name x p) (e::es) [] pos) (tE C own mr (qC as G fr)):=by
 subst hcv
 obtain ⟨f,fd,F,hm,hk,hb⟩:=F
 rw [<-hK] at F
 exact qbI (by rw [<-hK]; exact F) (hr.mono hj) hg hm hk hb hx ha hms hs nd hf hio hdb he hpl
noncomputable def qdv:D->Out D
 | .int i=>.ok (.int (-i))
 | _=>.bad
theorem YD:UnD X C .sh (unaryOp .USub) qdv:=by
 intro pins s σ H x v Q I rx h
 obtain ⟨F,dx,sb,tx,po⟩:=h
 cases dx <;> try exact po.elim
 obtain rfl:=tx.int
 exact qc6 pins s σ H _ v Q I rx ⟨_,rfl,po _ F H sb .refl (.int _)⟩
end
noncomputable def xQ:Option (Option D)->Bool
 | some (some (.lst _))=>true
 | _=>false
noncomputable def KD (i:Nat) (g:List D->D->Out (List D)) (fe:Sl->Out (D×Sl)):Sl->Out (D×Sl):=fun ρ=>if xQ ρ[i]?=true then (fe ρ).bind fun p=>match p.2[i]? with
 | some (some (.lst xs))=>match g xs p.1 with
  | .ok ys=>.ok (.non,p.2.set i (some (.lst ys)))
  | _=>.bad
 | _=>.bad
 else .bad
noncomputable def We (xs:List D) (d:D):Out (List D):=if xs.length < sizeLine then .ok (xs++[d]) else .bad
noncomputable def qez (xs:List D):D->Out (List D)
 | .lst ys=>if xs.length+ys.length<=sizeLine then .ok (xs++ys) else .bad
 | .tup ys=>if xs.length+ys.length<=sizeLine then .ok (xs++ys) else .bad
 | _=>.bad
section
theorem Rep.write (rp:Rep K own F H σ ρ) (hi:i∈own) (ha:σ[i]?=some (some (V.ref a))) (ow:OwnIs K F (upd H a u) a d) :
  Rep K own F (upd H a u) σ (ρ.set i (some d))/\Chg (OA own σ) F H F (upd H a u):=by
 obtain ⟨d0,hd0⟩:=rp.opn i hi
 obtain ⟨a',e1,hF,o0⟩:=rp.ow i d0 hi hd0
 rw [ha] at e1; cases e1
 have hl:i < ρ.length:=(aE.mp hd0).1
 refine ⟨⟨fun b o e=>by rw [qr (qx e hF)]; exact rp.sub b o e,by simp [rp.len],fun j d' hj e=>?_,fun j d' hj e=>?_,fun j hj=>?_,rp.dis⟩,⟨fun b o e n=>?_,fun b e=>?_,Same.refl _,fun b e=>.inl e⟩⟩
 ·rw [ad (fun z=>hj (by rw [<-z]; exact hi))] at e
  exact rp.val j d' hj e
 ·by_cases q:j=i
  ·subst q
   rw [aF hl] at e
   cases e
   exact ⟨a,ha,hF,ow⟩
  ·rw [ad (aX q)] at e
   obtain ⟨b,h1,h2,h3⟩:=rp.ow j d' hj e
   have nb:b≠a:=fun z=>by subst z; exact q (rp.dis j i b hj hi h1 ha)
   exact ⟨b,h1,h2,h3.grow (Same.refl _) fun o z=>by rw [qr nb]; exact z⟩
 ·by_cases q:j=i
  ·subst q; exact ⟨d,aF hl⟩
  ·rw [ad (aX q)]; exact rp.opn j hj
 ·have nb:b≠a:=fun z=>n (by rw [z]; exact ⟨i,hi,ha⟩)
  rw [qr nb]; exact e
 ·by_cases q:b=a
  ·rw [q,qm]; simp
  ·rw [qr q]; exact e
theorem Wf {o:Option (Option D)} (h:xQ o=true):∃ xs,o=some (some (.lst xs)):=by
 unfold xQ at h
 split at h
 ·exact ⟨_,rfl⟩
 ·cases h
theorem Gg {g:List D->D->Out (List D)} {R:V->V->Hp->VK->Prop} {σ:St} {H:Hp} {Q:VK} (ho:i∈own) (hm:m≠.any)
  (hR:∀ (a:Addr) (xs:List V) (ds ys:List D) (v:V) (d:D) (F H:Hp),Same F H->H a=some (.lst xs)->F a=none->IsL C.K F xs ds->Is C.K F v d->g ds d=.ok ys->(∀ zs,IsL C.K F zs ys->Q .non (upd H a (.lst zs)))->R (.ref a) v H Q)
  (h:tE C own .sh (KD i g fe) σ H Q):∃ a xs,σ[i]?=some (some (V.ref a))/\H a=some (.lst xs)/\tE C own .sh fe σ H fun v H1=>R (.ref a) v H1 Q:=by
 obtain ⟨F,ρ,rp,h⟩:=h
 unfold KD at h
 by_cases q:xQ ρ[i]?=true
 ·rw [if_pos q] at h
  obtain ⟨ds,hd⟩:=Wf q
  obtain ⟨a,h1,h2,xs,h3,h4⟩:=rp.ow i _ ho hd
  refine ⟨a,xs,h1,h3,F,ρ,rp,Po.bind h fun v F1 H1 d ρ1 rp1 c1 mo1 po=>?_⟩
  cases q1:ρ1[i]? with
  | none=>simp only [q1] at po; exact po.elim
  | some o=>
   cases o with
   | none=>simp only [q1] at po; exact po.elim
   | some dd=>
    simp only [q1] at po
    cases dd with
    | lst es=>
     simp only at po
     cases q2:g es d with
     | ok ys=>
      simp only [q2] at po
      obtain ⟨a',e1,e2,vs,e3,e4⟩:=rp1.ow i _ ho q1
      rw [h1] at e1; cases e1
      refine hR a vs es ys v d F1 H1 rp1.sub e3 e2 e4 mo1 q2 fun zs iz=>?_
      obtain ⟨r2,c2⟩:=rp1.write (u:=.lst zs) (d:=.lst ys) ho h1 ⟨zs,qm,iz⟩
      exact po .non F1 _ r2 c2 .non
     | exc c o=>simp only [q2] at po; exact po.elim
     | bad=>simp only [q2] at po; exact po.elim
    | _=>exact po.elim
 ·rw [if_neg q] at h; exact h.elim
theorem uV {px apos cpos:Pos} (hK:C.K=X.K) (hN:X.N[i]?=some x) (hv:Vis X.env.scope x) (ho:i∈own) (he:PE X e (tE C own m fe)) (hm:m≠.any:=by decide)
  (hd:(x == ("__debug__":Str))=false:=by decide) (hcd:(x == ("__classdict__":Str))=false:=by decide)
  (hbase:attributeBase (.Name x px) "append" X.env (eval (.Name x px) X.env)=eval (.Name x px) X.env:=by rfl)
  (hfew:((backTo cpos (starEach [e] X.env)).all (fun x=>!x.1)&&(backToKw cpos (keywordEach [] X.env)).all (fun x=>x.1.isSome)
   && decide ([e].length+([]:List Keyword).length+(if ([]:List Keyword).isEmpty then 0 else 1) < 30))=true:=by exact uM rfl)
  (hline:(apos.endLine == cpos.line)=true:=by rfl) (hs:starEach [e] X.env=[(false,eval e X.env)]:=by exact qO rfl) :
  PE X (.Call (.Attribute (.Name x px) "append" apos) [e] [] cpos) (tE C own .sh (KD i We fe)):=by
 refine jd (UV bY PySem.F.slot_list_append PySem.F.type_list_append xF (vm hN hv hd hcd) (qV (vg he hm) jZ hs) hbase hfew hline hs rfl) fun σ H Q h=>?_
 have hR:∀ (a:Addr) (xs:List V) (ds ys:List D) (v:V) (d:D) (F H:Hp),Same F H->H a=some (.lst xs)->F a=none->IsL C.K F xs ds->Is C.K F v d->We ds d=.ok ys->(∀ zs,IsL C.K F zs ys->Q .non (upd H a (.lst zs)))->Kr (.ref a) [v] H Q:=fun a xs ds ys v d F H sb ea ef ix iv eg k=>by
  unfold We at eg
  split at eg
  ·cases eg
   exact ⟨a,xs,v,rfl,rfl,ea,by rw [ix.length]; assumption,k _ (ix.append (.cons iv .nil))⟩
  ·cases eg
 obtain ⟨a,xs,h1,h2,k⟩:=Gg (R:=fun x v H Q=>Kr x [v] H Q) ho hm hR h
 exact ⟨.ref a,h1,.inl ⟨rfl,xs,.inl (.inl h2)⟩,k⟩
theorem YE {px apos cpos:Pos} (hN:X.N[i]?=some x) (hv:Vis X.env.scope x) (ho:i∈own) (he:PE X e (tE C own .fr fe))
  (hd:(x == ("__debug__":Str))=false:=by decide) (hcd:(x == ("__classdict__":Str))=false:=by decide)
  (hbase:attributeBase (.Name x px) "extend" X.env (eval (.Name x px) X.env)=eval (.Name x px) X.env:=by rfl)
  (hfew:((backTo cpos (starEach [e] X.env)).all (fun x=>!x.1)&&(backToKw cpos (keywordEach [] X.env)).all (fun x=>x.1.isSome)
   && decide ([e].length+([]:List Keyword).length+(if ([]:List Keyword).isEmpty then 0 else 1) < 30))=true:=by exact uM rfl)
  (hline:(apos.endLine == cpos.line)=true:=by rfl) (hs:starEach [e] X.env=[(false,eval e X.env)]:=by exact qO rfl) :
  PE X (.Call (.Attribute (.Name x px) "extend" apos) [e] [] cpos) (tE C own .sh (KD i qez fe)):=by
 refine jd (UV bY PySem.F.slot_list_extend PySem.F.type_list_extend UW (vm hN hv hd hcd) (qV he jZ hs) hbase hfew hline hs rfl) fun σ H Q ⟨F,ρ,rp,h⟩=>?_
 unfold KD at h
 by_cases q:xQ ρ[i]?=true
 ·rw [if_pos q] at h
  obtain ⟨ds,hd⟩:=Wf q
  obtain ⟨a,h1,h2,xs,h3,h4⟩:=rp.ow i _ ho hd
  refine ⟨.ref a,h1,.inl ⟨rfl,xs,.inl (.inl h3)⟩,F,ρ,rp,Po.bind h fun v F1 H1 d ρ1 rp1 c1 mo1 po=>?_⟩
  obtain ⟨b,rfl,hb0,hbF,ob⟩:=mo1
  cases q1:ρ1[i]? with
  | none=>simp only [q1] at po; exact po.elim
  | some o=>
   cases o with
   | none=>simp only [q1] at po; exact po.elim
   | some dd=>
    simp only [q1] at po
    cases dd with
    | lst es=>
     simp only at po
     obtain ⟨a',e1,e2,vs,e3,e4⟩:=rp1.ow i _ ho q1
     rw [h1] at e1; cases e1
     cases d with
     | lst ys=>
      obtain ⟨zs,hz,iz⟩:=ob
      have po:Po C own .sh σ F1 H1 (match (if es.length+ys.length<=sizeLine then .ok (es++ys) else .bad:Out (List D)) with | .ok ys=>.ok (.non,ρ1.set i (some (.lst ys))) | _=>.bad) Q:=po
      by_cases qz:es.length+ys.length<=sizeLine
      ·rw [if_pos qz] at po
       refine ⟨a,b,vs,zs,rfl,rfl,e3,hz,by rw [e4.length,iz.length]; exact qz,?_⟩
       obtain ⟨r2,c2⟩:=rp1.write (u:=.lst (vs++zs)) (d:=.lst (es++ys)) ho h1 ⟨_,qm,e4.append iz⟩
       exact po .non F1 _ r2 c2 .non
      ·rw [if_neg qz] at po; exact po.elim
     | dct ys=>
      exact po.elim
     | ins _ _=>exact po.elim
     | at_ _ _=>exact po.elim
     | _=>exact ob.elim
    | _=>exact po.elim
 ·rw [if_neg q] at h; exact h.elim
end
noncomputable def scB (names:List (Str×NameKind)) (scope:Scope):Bool:=decide (scope.kind=.function)&&scope.names.all fun y=>decide (y.2≠.cell)&&(!decide (y.2=.local)||decide (scope.names.lookup y.1=some .local)) &&
 (!decide (y.2=.free)||((decide (names.lookup y.1=some .cell)||decide (names.lookup y.1=some .free))&&decide (scope.names.lookup y.1=some .free)))
variable {names:List (Str×NameKind)}
theorem wD (hX:X.env.scope.names=names) (b:scB names scope=true):ScOk X scope:=by
 subst hX
 unfold scB at b
 rw [aP,aZ] at b
 obtain ⟨b0,b1⟩:=b
 refine ⟨of_decide_eq_true b0,fun y hy=>?_,fun y hy e=>?_,fun y hy e=>?_,fun y hy e=>?_⟩
 all_goals
  have q:=b1 y hy
  simp only [aP,Bool.or_eq_true,Bool.not_eq_true',decide_eq_true_eq,decide_eq_false_iff_not] at q
 ·exact q.1.1
 ·exact q.1.2.resolve_left fun z=>z e
 ·exact (q.2.resolve_left fun z=>z e).1
 ·exact (q.2.resolve_left fun z=>z e).2
noncomputable def qfK (names:List (Str×NameKind)) (N:List Str) (scope:Scope) (Nc:List Str) (nt:Nat) (cap:List Nat):Bool:=decide cap.Nodup&&decide (Nc.length=nt+cap.length)&&(bg cap.length).all fun j=>match cap[j]? with
 | some k=>match Nc[nt+j]? with
  | some x=>decide (N[k]?=some x)&&(((decide (names.lookup x=some .local)||decide (names.lookup x=some .cell)||decide (names.lookup x=some .free))&&decide ((x,bK)∈scope.names))||scope.names.all fun y=>decide (y.1≠x))
  | none=>false
 | none=>false
theorem kr {Nc:List Str} (hX:X.env.scope.names=names) (hN:X.N=N) (b:qfK names N scope Nc nt cap=true):CapOk X scope Nc nt cap:=by
 subst hX hN
 unfold qfK at b
 rw [aP,aP,aZ] at b
 obtain ⟨⟨b0,b1⟩,b2⟩:=b
 refine ⟨of_decide_eq_true b0,of_decide_eq_true b1,fun j k hj=>?_⟩
 have q:=b2 j (cB.mpr (aE.mp hj).1)
 rw [hj] at q
 cases e:Nc[nt+j]? with
 | none=>simp only [e] at q; cases q
 | some x=>
  simp only [e,aP,Bool.or_eq_true,decide_eq_true_eq] at q
  refine ⟨x,rfl,q.1,?_⟩
  rcases q.2 with ⟨z,q2⟩ | z
  ·refine .inl ⟨?_,q2⟩
   rcases z with (z | z) | z
   ·exact .inl z
   ·exact .inr (.inl z)
   ·exact .inr (.inr z)
  ·refine .inr fun k' hk'=>?_
   rw [aZ] at z
   exact of_decide_eq_true (z (x,k') hk') rfl
theorem xf:kC (CXk P w) X (fun _ _ _=>False):=fun _ _ _ _ _ _ _ h=>by
 obtain ⟨_,_,_,_,_,_,_,_,_,_,_,_,_,_,hE⟩:=h
 exact hE.elim
noncomputable def qfd (f:Sl->Out (D×Sl)):Sl->Out (D×Sl):=fun ρ=>(qR f ρ).bind fun p=>.ok (.bl (!p.1),p.2)
section
variable {i:Int}
theorem uW (h:∃ t,X.mg x=some (.int i t)) (hg:Gl X x) (hd:(x == ("__debug__":Str))=false:=by decide):PE X (.Name x pos) (tE C own .sh (dC (.int i))):=by
 obtain ⟨t,h⟩:=h
 exact qby (v:=.int i) hg h ⟨t,rfl⟩ (fun _=>.int i) hd
end
section
variable {a b:Expr} {fb:Sl->Out (D×Sl)}
noncomputable def uX:D->Out D
 | .lst xs=>.ok (.tup xs)
 | .tup xs=>.ok (.tup xs)
 | _=>.bad
noncomputable def KF:D->Out D
 | .lst xs=>.ok (.lst xs)
 | .tup xs=>.ok (.lst xs)
 | _=>.bad
theorem xq (hK:C.K=X.K):Jg X C .sh (.type "tuple") uX:=by
 intro pins s σ H xs us Q I r h
 obtain ⟨x,F,dx,rfl,sb,tx,po⟩:=h
 cases dx with
 | lst ds=>
  obtain ⟨p,vs,rfl,hq,t⟩:=tx.lst sb
  refine uL pins s σ H _ us Q I r ⟨p,vs,rfl,.inl ⟨by rw [<-hK]; exact hq,fun l hl=>?_⟩⟩
  obtain ⟨s2,c2⟩:=uB (u:=.tup vs) sb hl
  exact po _ _ _ s2 c2 (.tup (.inl (.inl qm)) (t.mono c2.grow))
 | tup ds=>
  rcases tx with tx | ⟨_,_,tx⟩
  ·have tx0:=tx
   cases tx with
   | tup hq t=>exact uL pins s σ H _ us Q I r ⟨_,_,rfl,.inr ⟨by rw [<-hK]; exact qD sb hq,po _ F H sb .refl tx0⟩⟩
  ·exact tx.elim
 | _=>exact po.elim
theorem YF (hK:C.K=X.K):Jg X C .fr (.type "list") KF:=by
 intro pins s σ H xs us Q I r h
 obtain ⟨x,F,dx,rfl,sb,tx,po⟩:=h
 cases dx with
 | lst ds=>
  obtain ⟨p,vs,rfl,hq,t⟩:=tx.lst sb
  refine yG pins s σ H _ us Q I r ⟨p,vs,rfl,.inl (by rw [<-hK]; exact hq),fun l hl=>?_⟩
  obtain ⟨s2,c2,hF⟩:=wy (u:=.lst vs) sb hl
  exact po _ _ _ s2 c2 ⟨l,rfl,hl,hF,vs,qm,t⟩
 | tup ds=>
  obtain ⟨p,vs,rfl,hq,t⟩:=tx.tup sb
  refine yG pins s σ H _ us Q I r ⟨p,vs,rfl,.inr (by rw [<-hK]; exact hq),fun l hl=>?_⟩
  obtain ⟨s2,c2,hF⟩:=wy (u:=.lst vs) sb hl
  exact po _ _ _ s2 c2 ⟨l,rfl,hl,hF,vs,qm,t⟩
 | _=>exact po.elim
def YG (X:Cx) (C:Ct) (m:Mo) (f:Value) (g:D->D->Out D):Prop:=um X f (fun xs H Q=>∃ x y F dx dy,xs=[x,y]/\Same F H/\TopIs C.K F H x dx/\TopIs C.K F H y dy/\PoV C m F H (g dx dy) Q)
theorem Gh {Q:VK} {g:D->D->Out D} (hma:ma≠.any) (h:tE C own m (d2 g fa fb) σ H Q):ZK (tE C own ma fa) (ZK (tE C own mb fb) qeu) σ H fun xs H1=>∃ x y F dx dy,xs=[x,y]/\Same F H1/\TopIs C.K F H1 x dx/\TopIs C.K F H1 y dy/\PoV C m F H1 (g dx dy) Q:=by
 obtain ⟨F,ρ,rp,h⟩:=QW (mb:=mb) hma h
 refine ⟨F,ρ,rp,?_⟩
 cases q:fa ρ with
 | ok p=>
  rw [q] at h
  obtain ⟨d,ρ1⟩:=p
  intro v F1 H1 rp1 c1 mo1
  obtain ⟨F2,ρ2,rp2,h2⟩:=h v F1 H1 rp1 c1 mo1
  refine ⟨F2,ρ2,rp2,?_⟩
  cases q2:fb ρ2 with
  | ok p=>
   rw [q2] at h2
   obtain ⟨d',ρ3⟩:=p
   intro w F3 H3 rp3 c3 mo3
   obtain ⟨F4,dx,dy,z⟩:=h2 w F3 H3 rp3 c3 mo3
   exact ⟨v,w,F4,dx,dy,rfl,z⟩
  | exc c=>rw [q2] at h2; exact h2
  | bad=>rw [q2] at h2; exact h2.elim
 | exc c=>rw [q] at h; exact h
 | bad=>rw [q] at h; exact h.elim
theorem Jp {id:String} {p:Pos} {g:D->D->Out D} (hc:YG X C m (.builtin id) g) (hg:Gl X x) (hm:X.mg x=none) (hv:bootBuiltins x=some (.builtin id)) (ha:PE X a (tE C own ma fa)) (hb:PE X b (tE C own mb fb)) (hma:ma≠.any:=by decide) (hn:x ≠ "__name__":=by decide) (hdb:(x == ("__debug__":Str))=false:=by decide)
  (h1:starEach [a,b] X.env=(false,eval a X.env)::starEach [b] X.env:=by rfl) (h2:starEach [b] X.env=[(false,eval b X.env)]:=by exact qO rfl):PE X (.Call (.Name x p) [a,b] [] pos) (tE C own m (d2 g fa fb)):=
 jd (wW hc hg hm hv (qV ha (qV hb jZ h2) h1) hn hdb (by rw [h1]) (by rw [h2]; rfl)) fun _ _ _ h=>Gh hma h
noncomputable def qeA:D->D->Out D:=gL fun i j=>.ok (.int (if j > i then j else i))
noncomputable def qeB:D->D->Out D:=gL fun i j=>.ok (.int (if j < i then j else i))
theorem qdw (hc:X.calm=true):YG X C .sh (.builtin "max") qeA:=by
 intro pins s σ H xs us Q I r h
 obtain ⟨x,y,F,dx,dy,rfl,sb,tx,ty,po⟩:=h
 cases dx <;> try exact po.elim
 cases dy <;> try exact po.elim
 obtain rfl:=tx.int
 obtain rfl:=ty.int
 exact UM hc pins s σ H _ us Q I r ⟨_,_,rfl,po _ F H sb .refl (.int _)⟩
theorem qdx (hc:X.calm=true):YG X C .sh (.builtin "min") qeB:=by
 intro pins s σ H xs us Q I r h
 obtain ⟨x,y,F,dx,dy,rfl,sb,tx,ty,po⟩:=h
 cases dx <;> try exact po.elim
 cases dy <;> try exact po.elim
 obtain rfl:=tx.int
 obtain rfl:=ty.int
 exact UN hc pins s σ H _ us Q I r ⟨_,_,rfl,po _ F H sb .refl (.int _)⟩
noncomputable def kb (a T:String):Option Bool:=if (fD a == fD T)=true then some true else if PySem.W.kitMeta T=true then (fastBuiltinMro a).map (·.contains (.type T)) else none
theorem Gi (K:Frag) (a T:String):cD K (.type a) (.type T)=kb a T:=rfl
noncomputable def tyN:D->Option String
 | .non=>some "NoneType"
 | .bl _=>some "bool"
 | .int _=>some "int"
 | .str _=>some "str"
 | .tup _=>some "tuple"
 | .lst _=>some "list"
 | .dct _=>some "dict"
 | _=>none
noncomputable def xR (T:String) (d:D):Out D:=match tyN d with
 | some a=>match kb a T with
  | some b=>.ok (.bl b)
  | none=>.bad
 | none=>.bad
theorem Gj (hK:C.K=X.K):um X (.builtin "isinstance") (fun xs H Q=>∃ x F d,xs=[x,.ty T]/\Same F H/\TopIs C.K F H x d/\PoV C .sh F H (xR T d) Q):=by
 intro pins s σ H xs us Q I r h
 obtain ⟨x,F,d,rfl,sb,tx,po⟩:=h
 obtain ⟨u,c,rfl,ru,rc⟩:=ZH r
 cases rc
 cases q:tyN d with
 | none=>unfold xR at po; rw [q] at po; exact po.elim
 | some a=>
  cases q2:kb a T with
  | none=>unfold xR at po; rw [q] at po; simp only [q2] at po; exact po.elim
  | some b=>
   have po:PoV C .sh F H (.ok (.bl b)) Q:=by unfold xR at po; rw [q] at po; simp only [q2] at po; exact po
   have fin:∀ tk,EP X pins σ Q (.bool b) { s with toks:=tk }:=fun tk=>⟨.bl b,H,I.tok tk,rfl,po _ F H sb .refl (.bl b)⟩
   have e:cD X.K (.type a) (.type T)=some b:=(Gi X.K a T).trans q2
   cases d with
   | non=>obtain rfl:=tx.non; cases ru; cases q; exact cH PySem.W.kitx_none I.kIn dP e (fun z=>nomatch z) fin
   | bl y=>obtain rfl:=tx.bl; cases ru; cases q; exact cH PySem.W.kitx_bool I.kIn dP e (fun z=>nomatch z) fin
   | int y=>obtain rfl:=tx.int; obtain ⟨t,rfl⟩:=ru; cases q; exact cH PySem.W.kitx_int I.kIn dP e (fun z=>nomatch z) fin
   | str y=>obtain ⟨rfl,_⟩:=tx.str; obtain ⟨t,rfl⟩:=ru; cases q; exact cH PySem.W.kitx_str I.kIn dP e (fun z=>nomatch z) fin
   | tup y=>
    obtain ⟨p,vs,rfl,hq,t⟩:=tx.tup sb
    cases ru; cases q
    obtain ⟨its,_,⟨o,h1,h2,_⟩,_⟩:=I.tuple (show SqT X.K H p vs by rw [<-hK]; exact hq)
    exact cH PySem.W.kitx_tuple I.kIn ⟨o,h1,h2⟩ e (fun z=>nomatch z) fin
   | lst y=>
    obtain ⟨p,vs,rfl,hq,t⟩:=tx.lst sb
    cases ru; cases q
    obtain ⟨its,_,⟨o,n,h1,h2,_⟩,_⟩:=I.list (show SqL X.K H p vs by rw [<-hK]; exact hq)
    exact cH PySem.W.kitx_list I.kIn ⟨o,h1,h2⟩ e (fun z=>nomatch z) fin
   | dct y=>
    obtain ⟨p,vs,rfl,hq,t⟩:=tx.dct sb
    cases ru; cases q
    obtain ⟨_,_,ws,_,o,es,ep,h1,h2,_⟩:=(show ObjOk X.prog X.w H s.heap p (.dK vs) from I.hok p _ hq)
    exact cH PySem.W.kitx_dict I.kIn ⟨o,h1,h2.1⟩ e (fun z=>nomatch z) fin
   | _=>cases q
theorem yJ {tn:Str} {p tp:Pos} (hK:C.K=X.K) (hg:Gl X "isinstance") (hm:X.mg "isinstance"=none) (hv:bootBuiltins "isinstance"=some (.builtin "isinstance")) (ht:Gl X tn) (htm:X.mg tn=none) (htv:bootBuiltins tn=some (.type T)) (ha:PE X a (tE C own ma fa)) (hn:tn ≠ "__name__":=by decide) (hdb:(tn == ("__debug__":Str))=false:=by decide)
  (h1:starEach [a,.Name tn tp] X.env=(false,eval a X.env)::starEach [.Name tn tp] X.env:=by rfl) (h2:starEach [.Name tn tp] X.env=[(false,eval (.Name tn tp) X.env)]:=by rfl):PE X (.Call (.Name "isinstance" p) [a,.Name tn tp] [] pos) (tE C own .sh (d1 (xR T) fa)):=by
 refine jd (wW (Gj (T:=T) hK) hg hm hv (qV ha (qV (qbf (v:=.ty T) ht htm htv rfl hn hdb) jZ h2) h1) (by decide) (by decide) (by rw [h1]) (by rw [h2]; rfl)) fun σ H Q h=>?_
 obtain ⟨F,ρ,rp,h⟩:=Yd (ma:=ma) h
 refine ⟨F,ρ,rp,?_⟩
 cases q:fa ρ with
 | ok p=>
  rw [q] at h
  obtain ⟨d,ρ1⟩:=p
  intro v F1 H1 rp1 c1 mo1
  obtain ⟨F2,dx,z⟩:=h v F1 H1 rp1 c1 mo1
  exact ⟨v,F2,dx,rfl,z⟩
 | exc c=>rw [q] at h; exact h
 | bad=>rw [q] at h; exact h.elim
noncomputable def yK:List D->Option (List Bool)
 | []=>some []
 | .bl b::ds=>(yK ds).map (b::·)
 | _::_=>none
noncomputable def Zs:D->Out D
 | .lst ds=>match yK ds with
  | some bs=>.ok (.bl (bs.all id))
  | none=>.bad
 | _=>.bad
theorem Wg:∀ {vs:List V} {us:List Value} {ds:List D} {bs:List Bool},IsL K F vs ds->Vals vs us->yK ds=some bs->us=bs.map cV
 | _,_,_,_,.nil,.nil,e=>by cases e; rfl
 | _,_,_,_,.cons (d:=d) h t,.cons r rs,e=>by
  cases d with
  | bl b=>
   unfold yK at e
   obtain ⟨bs',e1,e2⟩:=bP.mp e
   subst e2
   cases h
   cases r
   rw [Wg t rs e1]; rfl
  | _=>cases e
theorem Jq (hK:C.K=X.K) (hc:X.calm=true):Jg X C .sh (.builtin "all") Zs:=by
 intro pins s σ H xs us Q I r h
 obtain ⟨x,F,dx,rfl,sb,tx,po⟩:=h
 cases dx <;> try exact po.elim
 rename_i ds
 obtain ⟨p,vs,rfl,hq,t⟩:=tx.lst sb
 obtain ⟨u,rfl,ru⟩:=xc r
 cases ru
 unfold Zs at po
 cases q:yK ds with
 | none=>simp only [q] at po; exact po.elim
 | some bs=>
  simp only [q] at po
  obtain ⟨its,rv,pl,hz⟩:=I.list (show SqL X.K H p vs by rw [<-hK]; exact hq)
  have eb:=Wg t rv q
  subst eb
  have hp:p < s.heap.objs.size:=let ⟨o,h1,_⟩:=pl.isList; ap h1
  refine call_all_walk (wpAny_pyIter_list pl.isList ?_)
  have W:Walks X.prog X.w X.A.in1 s.heap.objs.size [s.heap.objs.size,p] [s.heap.objs.size] (bs.map cV).toArray.size (fun i v=>(bs.map cV).toArray[i]?=some v) (fun i h=>h.IsListIter s.heap.objs.size p i/\h.IsList p (bs.map cV).toArray):=fN (A:=X.A.in1) (show X.A.in1.handled=none from I.ok.hd hc) s.heap.objs.size p (ay hp) _
  have st:(s.heap.push { cls:=.type "list_iterator",data:=.fields #[.ref p,.int 0 0] }).IsListIter s.heap.objs.size p 0/\(s.heap.push { cls:=.type "list_iterator",data:=.fields #[.ref p,.int 0 0] }).IsList p (bs.map cV).toArray:=⟨⟨_,ag _ rfl,rfl,rfl⟩,let ⟨o,h1,h2⟩:=pl.isList; ⟨o,aa _ h1,h2⟩⟩
  refine ⟨_,_,_,_,_,_,fun i=>(bs[i]?).getD false,rfl,W,st,fun i v s' Q' E' hP hQ'=>?_,fun h' tk kp=>?_⟩
  ·have hP:(bs.map cV).toArray[i]?=some v:=hP
   rw [et,aY] at hP
   cases qi:bs[i]? with
   | none=>rw [qi] at hP; cases hP
   | some b=>
    have hQ2:Q' ((bs[i]?).getD false) s':=hQ'
    rw [qi] at hP hQ2
    cases hP
    exact wpAny_truthy_bool hQ2
  ·have e:(bg (bs.map cV).toArray.size).all (fun i=>(bs[i]?).getD false)=bs.all id:=by
    rw [ak,aG,Bool.eq_iff_iff,aZ,aZ]
    constructor
    ·intro h b hb
     obtain ⟨i,hi,e⟩:=eH.mp hb
     have:=h i (cB.mpr hi)
     rw [aJ hi,e] at this
     exact this
    ·intro h i hi
     have hi:=cB.mp hi
     rw [aJ hi]
     exact h _ (cA hi)
   rw [e]
   refine ⟨.bl (bs.all id),H,?_,rfl,po _ F H sb .refl (.bl _)⟩
   have k2:∀ b o,s.heap.get? b=some o->h'.get? b=some o:=fun b o eb=>kp b o (by simp; exact ay (ap eb)) (aa _ eb)
   exact I.kept (t':=tk) k2
end
noncomputable def vF (idx:List Nat) (xs:List α):List α:=idx.filterMap fun k=>xs[k]?
theorem IsL.pick (h:IsL K F vs ds):∀ (idx:List Nat),IsL K F (vF idx vs) (vF idx ds)
 | []=>.nil
 | k::idx=>by
  unfold vF
  rw [bz,bz]
  cases e:vs[k]? with
  | none=>
   have e2:ds[k]?=none:=cg.mpr (by rw [<-h.length]; exact cg.mp e)
   rw [e2]
   exact IsL.pick h idx
  | some v=>
   obtain ⟨d,e2,i⟩:=h.get e
   rw [e2]
   exact .cons i (IsL.pick h idx)
theorem xS {us:List Value} (h:Vals vs us):∀ (idx:List Nat),Vals (vF idx vs) (vF idx us)
 | []=>.nil
 | k::idx=>by
  unfold vF
  rw [bz,bz]
  cases e:vs[k]? with
  | none=>rw [h.none_of e]; exact xS h idx
  | some v=>
   obtain ⟨u,e2,r⟩:=h.get e
   rw [e2]
   exact .cons r (xS h idx)
theorem Gk (xs:List α):vF (bg xs.length) xs=xs:=by
 unfold vF
 have:=PySem.W.krv_all xs.toArray
 simpa using this
noncomputable def gl (n:Nat) (lo hi:Option Int) (st:Int):List Nat:=(bg (cj (aR lo hi st n).1 (aR lo hi st n).2 st)).map fun (k:Nat)=>((aR lo hi st n).1+(k:Int) * st).toNat
noncomputable def gm (x:Str) (lo hi:Option Int) (st:Int):Str:=if (st == 1&&(di lo hi st x.length).length == x.length)=true then x else ⟨((di lo hi st x.length).filterMap (x.cps[·]?)).toArray⟩
noncomputable def slD (lo hi st:Option Int):D->Out D
 | .tup xs=>if st.getD 1≠0/\(vF (gl xs.length lo hi (st.getD 1)) xs).length<=sizeLine then .ok (.tup (vF (gl xs.length lo hi (st.getD 1)) xs)) else .bad
 | .str x=>if st.getD 1≠0/\(gm x lo hi (st.getD 1)).length<=sizeLine then .ok (.str (gm x lo hi (st.getD 1))) else .bad
 | _=>.bad
def qfL (X:Cx) (r:V->Option Int->Option Int->Option Int->Hp->VK->Prop):Prop:=
 ∀ (pins:List (Addr×Obj)) (s:Shared) (σ:St) (H:Hp) (x:V) (v vl vu vk:Value) (lo hi st:Option Int) (sl:Addr) (Q:VK),Inv X pins σ H s->RelV x v->s.heap.IsSliceOf sl vl vu vk->IsPart vl lo->IsPart vu hi->IsPart vk st->r x lo hi st H Q ->
  ∃ T id,typeLookup (.type T) "__getitem__"=pure (some (.builtin id))/\s.TypeIs v T/\wpAny (model X.prog X.w) X.A (getItem v (.ref sl)) (EP X pins σ Q) X.xe s
variable {sl:Addr}
section
variable {prog:Program}
theorem zO {vl vu vk:Value} {lo hi st:Option Int} {n:Nat} {Q:Int×Int×Nat->Shared->Prop} (hs:s.heap.IsSliceOf sl vl vu vk) (pl:IsPart vl lo) (pu:IsPart vu hi) (pk:IsPart vk st) (h0:st.getD 1≠0)
  (h:Q ((aR lo hi (st.getD 1) n).1,st.getD 1,cj (aR lo hi (st.getD 1) n).1 (aR lo hi (st.getD 1) n).2 (st.getD 1)) s):wpAny (model prog w) A (Builtin.Slice.sliceApplied (.ref sl) (pure (n:Int))) Q E s:=by
 obtain ⟨os,hos,hcs,hds⟩:=id hs
 unfold Builtin.Slice.sliceApplied Builtin.Slice.sliceFields
 refine wpAny_bind (wpAny_bind (wpAny_field hos hds (x:=vl) rfl (wpAny_bind (wpAny_field hos hds (x:=vu) rfl (wpAny_bind (wpAny_field hos hds (x:=vk) rfl (wpAny_pure ?_)))))))
 refine wpAny_bind (HT.slicePart_ pk ?_)
 show wpAny _ _ (if (st.getD 1 == 0)=true then _ else _) _ _ s
 rw [if_neg (by simpa using h0)]
 refine wpAny_bind (HT.slicePart_ pl (wpAny_bind (HT.slicePart_ pu (wpAny_bind (wpAny_pure ?_)))))
 exact wpAny_pure h
theorem xT {t:Addr} {items:Array Value} {vl vu vk:Value} {lo hi st:Option Int} {Q:Value->Shared->Prop} (ht:IsTup s.heap t items) (hs:s.heap.IsSliceOf sl vl vu vk) (pl:IsPart vl lo) (pu:IsPart vu hi) (pk:IsPart vk st) (h0:st.getD 1≠0)
  (hw:gl items.size lo hi (st.getD 1)=bg items.size->Q (.ref t) s)
  (h:Q (.ref s.heap.objs.size) { s with heap:=s.heap.push { cls:=.type "tuple",data:=.seq (vF (gl items.size lo hi (st.getD 1)) items.toList).toArray } })
  (hsz:(vF (gl items.size lo hi (st.getD 1)) items.toList).length<=sizeLine):wpAny (model prog w) A (getItem (.ref t) (.ref sl)) Q E s:=by
 obtain ⟨os,hos,hcs,hds⟩:=id hs
 have hTs:s.TypeIs (.ref sl) "slice":=⟨os,hos,hcs⟩
 unfold getItem
 try with_reducible refine wpAny_holding ?_
 first | refine wpAny_bind (wpAny_pure ?_) | skip
 refine wpAny_bind (wpAny_sequenceKey ht.typeIs (by decide) ?_)
 refine wpAny_bind (wpAny_callSpecial?_slot (name:=ao "__getitem__") ht.typeIs cN
  (wpAny_call_entry cN ht.typeIs entry_tuple_getitem ?_ (args_tuple_getitem _ _)))
 show wpAny _ _ (Builtin.Tuple.tupleItemsOf (.ref t) >>= _) _ _ s
 refine wpAny_bind (tupleItemsOf_ ht ?_)
 refine wpAny_bind (wpAny_typeOf hTs ?_)
 rw [if_pos (by decide)]
 refine wpAny_bind (zO hs pl pu pk h0 ?_)
 generalize hA:aR lo hi (st.getD 1) items.size=A0
 generalize hN:cj A0.1 A0.2 (st.getD 1)=N0
 have ep:vF (gl items.size lo hi (st.getD 1)) items.toList=(bg N0).filterMap fun (k:Nat)=>items[(A0.1+(k:Int) * st.getD 1).toNat]?:=by
  unfold vF gl
  rw [hA,hN,List.filterMap_map]
  congr 1
  funext k
  simp
 rw [ep] at h hsz
 by_cases hc:(A0.1 == 0&&st.getD 1 == 1&&N0 == items.size)=true
 ·have hc':=hc
  rw [aP,aP] at hc'
  have q1:A0.1=0:=eq_of_beq hc'.1.1
  have q2:st.getD 1=1:=eq_of_beq hc'.1.2
  have q3:N0=items.size:=eq_of_beq hc'.2
  have whole:gl items.size lo hi (st.getD 1)=bg items.size:=by
   unfold gl
   rw [hA,hN,q1,q2,q3]
   have e:(fun (k:Nat)=>((0:Int)+(k:Int) * 1).toNat)=id:=by
    funext k
    show ((0:Int)+(k:Int) * 1).toNat=k
    omega
   rw [e,List.map_id]
  have hQ:=hw whole
  show wpAny _ _ (if (A0.1 == 0&&st.getD 1 == 1&&N0 == items.size)=true then _ else _) _ _ s
  rw [if_pos hc]
  unfold Builtin.Tuple.tupleIsExact
  refine wpAny_bind (wpAny_bind (wpAny_typeOf ht.typeIs (wpAny_pure ?_)))
  rw [if_pos (by decide)]
  exact wpAny_bind (wpAny_rule (wpAny_pure ⟨_,rfl,wpAny_pure hQ⟩))
 ·show wpAny _ _ (if (A0.1 == 0&&st.getD 1 == 1&&N0 == items.size)=true then _ else _) _ _ s
  rw [if_neg hc]
  have htake:sizeOk (.seq ((bg N0).filterMap fun (k:Nat)=>items[(A0.1+(k:Int) * st.getD 1).toNat]?).toArray):=by
   show (((bg N0).filterMap fun (k:Nat)=>items[(A0.1+(k:Int) * st.getD 1).toNat]?).toArray).size<=sizeLine
   rw [ak]; exact hsz
  first
   | exact wpAny_bind (m:=cM _) (wpAny_newObj_type (wpAny_pure ⟨_,rfl,wpAny_pure h⟩) htake)
   | exact wpAny_bind (m:=cM _) (wpAny_newObj_type (wpAny_bind (wpAny_pure (wpAny_pure ⟨_,rfl,wpAny_pure h⟩))) htake)
   | exact wpAny_bind (wpAny_bind (m:=cM _) (wpAny_newObj_type (wpAny_pure (wpAny_pure ⟨_,rfl,wpAny_pure h⟩)) htake))
   | exact wpAny_bind (wpAny_bind (m:=cM _) (wpAny_newObj_type (wpAny_pure ⟨_,rfl,wpAny_pure h⟩) htake))
end
def PoO (C:Ct) (own:List Nat) (σ:St) (F H:Hp) (r:Out (Option Int×Sl)) (Q:Option Int->Hp->Prop):Prop:=match r with
 | .ok (b,ρ')=>∀ F' H',Rep C.K own F' H' σ ρ'->Chg (OA own σ) F H F' H'->Q b H'
 | .exc c ρ'=>∀ F' H',Same F' H'->UA C.K C.ox F' H' σ ρ'->Chg (OA own σ) F H F' H'->C.E (C.cv c) none H'
 | .bad=>False
def tO (C:Ct) (own:List Nat) (f:Sl->Out (Option Int×Sl)):TO:=fun σ H Q=>∃ F ρ,Rep C.K own F H σ ρ/\PoO C own σ F H (f ρ) Q
noncomputable def gR:Option (Sl->Out (D×Sl))->Sl->Out (Option Int×Sl)
 | none,ρ=>.ok (none,ρ)
 | some f,ρ=>(f ρ).bind fun p=>match p.1 with
  | .int i=>.ok (some i,p.2)
  | _=>.bad
theorem Po.bindO {o:Out (Option Int×Sl)} {k:Option Int×Sl->Out (D×Sl)} {Q:VK} {R:Option Int->Hp->Prop} (hp:Po C own m σ F H (o.bind k) Q)
  (h:∀ F1 H1 b ρ1,Rep C.K own F1 H1 σ ρ1->Chg (OA own σ) F H F1 H1->Po C own m σ F1 H1 (k (b,ρ1)) Q->R b H1):PoO C own σ F H o R:=by
 cases o with
 | ok p=>
  obtain ⟨d,ρ1⟩:=p
  exact fun F1 H1 rp c=>h F1 H1 d ρ1 rp c (Po.shift (show Po C own m σ F H (k (d,ρ1)) Q from hp) c)
 | exc x=>exact hp
 | bad=>exact hp.elim
noncomputable def YH (fa:Sl->Out (D×Sl)) (l u k:Option (Sl->Out (D×Sl))):Sl->Out (D×Sl):=fun ρ=>(fa ρ).bind fun p=>(gR l p.2).bind fun a=>(gR u a.2).bind fun b=>(gR k b.2).bind fun c=>(slD a.1 b.1 c.1 p.1).plain.bind fun d=>.ok (d,c.2)
section
variable {a:Expr} {p2:Pos}
theorem Wh:PO X none (tO C own (gR none)):=by
 intro pins s σ H Q I ⟨F,ρ,rp,h⟩
 exact qbr pins s σ H Q I (h F H rp .refl)
theorem Gm (h:PE X e (tE C own m f)):PO X (some e) (tO C own (gR (some f))):=by
 intro pins s σ H Q I ⟨F,ρ,rp,hp⟩
 refine qbs h pins s σ H Q I ⟨F,ρ,rp,?_⟩
 have hp:PoO C own σ F H ((f ρ).bind fun p=>match p.1 with | .int i=>.ok (some i,p.2) | _=>.bad) Q:=hp
 cases q:f ρ with
 | ok p=>
  rw [q] at hp
  obtain ⟨d,ρ1⟩:=p
  cases d with
  | int i=>exact fun v F1 H1 rp1 c1 mo1=>⟨i,mo1.top.int,hp F1 H1 rp1 c1⟩
  | _=>exact hp.elim
 | exc c=>rw [q] at hp; exact hp
 | bad=>rw [q] at hp; exact hp.elim
theorem YI {r:V->Option Int->Option Int->Option Int->Hp->VK->Prop} {tl th tk:TO} {lo hi st:Option Expr} (hr:qfL X r) (he:PE X e te) (hl:PO X lo tl) (hu:PO X hi th) (hk:PO X st tk) :
  PE X (.Subscript e (.Slice lo hi st p2) pos) (fun σ H Q=>te σ H fun x H1=>tl σ H1 fun l H2=>th σ H2 fun u H3=>tk σ H3 fun k H4=>r x l u k H4 Q):=by
 refine ⟨?_⟩
 intro pins s σ H Q I h
 refine Subscript_ (thn (he pins s σ H _ I h) fun v s1 ⟨x,H1,I1,r1,q1⟩=>?_)
 refine wpAny_Slice (thn (hl pins s1 σ H1 _ I1 q1) fun vl s2 ⟨l,H2,I2,pl,q2⟩=>thn (hu pins s2 σ H2 _ I2 q2) fun vu s3 ⟨u,H3,I3,pu,q3⟩=>thn (hk pins s3 σ H3 _ I3 q3) fun vk s4 ⟨k,H4,I4,pk,q4⟩=>?_)
 have I5:Inv X pins σ H4 { s4 with heap:=s4.heap.push { cls:=.type "slice",data:=.fields #[vl,vu,vk] } }:=I4.kept (t':=s4.toks) fun b ob q=>aa _ q
 obtain ⟨T,id,hT,ht,hg⟩:=hr pins { s4 with heap:=s4.heap.push { cls:=.type "slice",data:=.fields #[vl,vu,vk] } } σ H4 x v vl vu vk l u k s4.heap.objs.size Q I5 r1 (Heap.IsSliceOf.new ..) pl pu pk q4
 show wpAny (model X.prog X.w) X.A (subscriptTail e (.Slice lo hi st p2) v (.ref s4.heap.objs.size)) (EP X pins σ Q) X.xe { s4 with heap:=s4.heap.push { cls:=.type "slice",data:=.fields #[vl,vu,vk] } }
 cases st with
 | none=>exact tail_any (ops:=[.ref s4.heap.objs.size,v]) ht hT hg (by with_unfolding_all rfl)
 | some st=>exact tail_any (ops:=[v,.ref s4.heap.objs.size]) ht hT hg (by with_unfolding_all rfl)
theorem gS {v:Value} {o:Option Int} (h:IsPart v o):∃ l:Option (Int×Tok),v=partValue l/\l.map (·.1)=o:=by
 cases h with
 | none=>exact ⟨none,rfl,rfl⟩
 | int i t=>exact ⟨some (i,t),rfl,rfl⟩
theorem qgl (hK:C.K=X.K):qfL X (fun x lo hi st H Q=>∃ F d,Same F H/\Is C.K F x d/\PoV C .sh F H (slD lo hi st d) Q):=by
 intro pins s σ H x v vl vu vk lo hi st sl Q I rx hs pl pu pk h
 obtain ⟨F,d,sb,is,po⟩:=h
 cases d with
 | tup ds=>
  have is0:=is
  cases is with
  | @tup a xs _ hq t=>
   cases rx
   have hq':SqT X.K H a xs:=by rw [<-hK]; exact qD sb hq
   obtain ⟨its,r,ht,hz⟩:=I.tuple hq'
   have hlen:its.length=ds.length:=r.length.symm.trans t.length
   have po:PoV C .sh F H (if st.getD 1≠0/\(vF (gl ds.length lo hi (st.getD 1)) ds).length<=sizeLine then .ok (.tup (vF (gl ds.length lo hi (st.getD 1)) ds)) else .bad) Q:=po
   by_cases c:st.getD 1≠0/\(vF (gl ds.length lo hi (st.getD 1)) ds).length<=sizeLine
   ·rw [if_pos c] at po
    have iv:=t.pick (gl ds.length lo hi (st.getD 1))
    have rv:=xS r (gl ds.length lo hi (st.getD 1))
    refine ⟨"tuple",_,cN.lookup,ht.typeIs,xT ht hs pl pu pk c.1 (fun e=>?_) ?_ ?_⟩
    ·rw [ak,hlen] at e
     refine ⟨.ref a,H,I,rfl,po _ F H sb .refl ?_⟩
     rw [e,Gk]
     exact is0
    ·simp only [ak,hlen]
     have hlv:(vF (gl ds.length lo hi (st.getD 1)) xs).length<=sizeLine:=by rw [iv.length]; exact c.2
     refine ⟨.ref s.heap.objs.size,_,I.laid (t':=s.toks) (o:=.tup (vF (gl ds.length lo hi (st.getD 1)) xs)) (fun b ob q=>aa _ q) (ax _) ⟨⟨hlv,⟨_,ag _ rfl,rfl⟩⟩,_,rv,fJ _ _⟩,rfl,?_⟩
     obtain ⟨s2,c2⟩:=uB (u:=.tup (vF (gl ds.length lo hi (st.getD 1)) xs)) sb (I.hok.fresh (ax _))
     exact po _ _ _ s2 c2 (.tup (.inl (.inl qm)) (iv.mono c2.grow))
    ·simp only [ak,hlen]
     rw [<-rv.length,iv.length]
     exact c.2
   ·rw [if_neg c] at po; exact po.elim
 | str z=>
  cases is
  obtain ⟨t,rfl⟩:=rx
  have po:PoV C .sh F H (if st.getD 1≠0/\(gm z lo hi (st.getD 1)).length<=sizeLine then .ok (.str (gm z lo hi (st.getD 1))) else .bad) Q:=po
  by_cases c:st.getD 1≠0/\(gm z lo hi (st.getD 1)).length<=sizeLine
  ·rw [if_pos c] at po
   obtain ⟨l,rfl,el⟩:=gS pl
   obtain ⟨u,rfl,eu⟩:=gS pu
   obtain ⟨k,rfl,ek⟩:=gS pk
   refine ⟨"str",_,PySem.F.slot_str_getitem.lookup,typeIs_str s z t,wpAny_getItem_str_slice (l:=l) (u:=u) (st:=k) hs (by rw [ek]; simpa using c.1) ?_⟩
   have c2:=c.2
   unfold sliceMade slicePicked
   rw [el,eu,ek]
   unfold gm at c2 po
   by_cases q:(st.getD 1 == 1&&(di lo hi (st.getD 1) z.length).length == z.length)=true
   ·rw [if_pos q] at c2 po ⊢
    exact ⟨.str z,H,I,⟨t,rfl⟩,po _ F H sb .refl (.str c2)⟩
   ·rw [if_neg q] at c2 po ⊢
    exact ⟨c2,.str _,H,I.tok _,⟨_,rfl⟩,po _ F H sb .refl (.str c2)⟩
  ·rw [if_neg c] at po; exact po.elim
 | _=>exact po.elim
theorem Gn {lo hi st:Option Expr} {l u k:Option (Sl->Out (D×Sl))} (hK:C.K=X.K) (he:PE X e (tE C own ma fa)) (hl:PO X lo (tO C own (gR l))) (hu:PO X hi (tO C own (gR u))) (hk:PO X st (tO C own (gR k))) (hma:ma≠.any:=by decide) :
  PE X (.Subscript e (.Slice lo hi st p2) pos) (tE C own .sh (YH fa l u k)):=by
 refine jd (YI (qgl (C:=C) hK) (vg he hma) hl hu hk) fun σ H Q ⟨F,ρ,rp,h⟩=>⟨F,ρ,rp,Po.bind h fun v F1 H1 d ρ1 rp1 c1 mo1 h1=>?_⟩
 refine ⟨F1,ρ1,rp1,Po.bindO h1 fun F2 H2 a ρ2 rp2 c2 h2=>⟨F2,ρ2,rp2,Po.bindO h2 fun F3 H3 b ρ3 rp3 c3 h3=>⟨F3,ρ3,rp3,Po.bindO h3 fun F4 H4 c ρ4 rp4 c4 h4=>?_⟩⟩⟩
 exact ⟨F4,d,rp4.sub,((mo1.mono c2.grow).mono c3.grow).mono c4.grow,PoV.of rp4 h4⟩
end
noncomputable def Its (x:Str):It:=⟨fun i _=>i < x.cps.size,fun i H v H'=>H'=H/\∃ c,x.cps[i]?=some c/\v=.str ⟨#[c]⟩,fun i _=>x.cps.size<=i⟩
noncomputable def Jr (x:Str):List D:=x.cps.toList.map fun c=>.str ⟨#[c]⟩
theorem Wi {P:Program} {w:World} {K:Frag} {tg:Expr} (it:Addr) (x:Str) (t:Tok) (ty:String) (hn:["enumerate", "zip", "dict_itemiterator", "dict_reverseitemiterator", "odict_iterator", "itertools.zip_longest", "itertools.pairwise"].contains ty=false)
  (W:∀ A:Around,A.handled=none->Walks P w A it [it] [it] x.cps.size (SignAt x) (fun i h=>h.IsStrIter it ty x t i)) (sf:∀ (A:Around) (i:Nat) (s:Shared) (Q:Value->Shared->Prop) (E:Value->Shared->Prop),s.heap.IsStrIter it ty x t i->Q (.ref it) s->wpAny (model P w) A (pyIter (.ref it)) Q E s) :
  Turn P w K tg (Its x) [it] it (fun i h=>h.IsStrIter it ty x t i/\i<=x.cps.size) where
 mem:=by simp
 obj:=fun i h st b hb=>by
  have e:b=it:=by simpa using hb
  subst e
  obtain ⟨o,e,c,d⟩:=st.1
  exact ⟨o,e,fun v z=>by rw [d] at z; cases z⟩
 keep:=fun i h h' st k=>by
  obtain ⟨⟨o,e,r⟩,hi⟩:=st
  exact ⟨⟨o,k it (by simp) o e,r⟩,hi⟩
 item:=by
  intro X hP hw hK hc i pins s σ H E I hf st hg
  subst hP hw hK
  obtain ⟨f0,f1,f2,f3,f4,f5⟩:=hf it (by simp)
  refine (W X.A (I.ok.hd hc)).item i s _ _ hg st.1 fun v h' tk hP st' kp=>?_
  have I1:Inv X pins σ H { s with heap:=h',toks:=tk }:=I.turned (t':=tk) (fun b o hb e=>kp b o (by simpa using hb) e) f0 f1 f3 f4 f5
  obtain ⟨o,e,c,d⟩:=id st'
  obtain ⟨c',u,h1,h2⟩:∃ c' u,x.cps[i]?=some c'/\v=e9 ⟨#[c']⟩ u:=by
   unfold SignAt at hP
   first
    | exact hP
    | (obtain ⟨c',u,h1,h2⟩:=hP; exact ⟨c',u,h1,h2⟩)
    | (obtain ⟨c',h1,u,h2⟩:=hP; exact ⟨c',u,h1,h2⟩)
    | (obtain ⟨u,c',h1,h2⟩:=hP; exact ⟨c',u,h1,h2⟩)
  subst h2
  exact ⟨_,rfl,ZC (s:={ s with heap:=h',toks:=tk }) e c d hn ⟨.str ⟨#[c']⟩,H,I1,⟨u,rfl⟩,⟨rfl,c',h1,rfl⟩,⟨st',hg⟩,fun b hb=>(hf b hb).1⟩⟩
 done:=by
  intro X hP hw hK hc i pins s σ H E I hf st hg
  subst hP hw hK
  obtain ⟨f0,f1,f2,f3,f4,f5⟩:=hf it (by simp)
  have hi:i=x.cps.size:=Nat.le_antisymm st.2 hg
  subst hi
  exact (W X.A (I.ok.hd hc)).done s _ _ st.1 fun h' tk kp=>⟨rfl,I.turned (t':=tk) (fun b o hb e=>kp b o (by simpa using hb) e) f0 f1 f3 f4 f5⟩
 self:=fun A i s Q E st h=>sf A i s Q E st.1 h
theorem qdy:ItIs K F (Its x) (Jr x) where
 go:=fun i H hi _=>by
  have:i < x.cps.size:=by simpa [Jr] using hi
  exact this
 yld:=fun i Fi H v H' d e s1 s2 y=>by
  obtain ⟨rfl,c,h1,rfl⟩:=y
  have e:d=.str ⟨#[c]⟩:=by
   unfold Jr at e
   rw [aY] at e
   have h1:x.cps.toList[i]?=some c:=by simpa using h1
   rw [h1] at e
   exact (br.inj e).symm
  subst e
  exact ⟨Fi,.refl,s2,.str (VY c)⟩
 stop:=fun i H hi _=>by
  have:x.cps.size<=i:=by simpa [Jr] using hi
  exact this
noncomputable def ku:D->Out (List D)
 | .lst xs=>.ok xs
 | .tup xs=>.ok xs
 | .str x=>.ok (Jr x)
 | _=>.bad
noncomputable def wt (f:Sl->Out (D×Sl)):Sl->Out (List D×Sl):=fun ρ=>(f ρ).bind fun p=>(ku p.1).bind fun ds=>.ok (ds,p.2)
section
theorem qdz {l:Expr} {tl:TE} (hl:PE X l tl):PI X tg l (fun σ H R=>tl σ H fun x H1=>(∃ a,x=.ref a/\(((∃ xs,SqL X.K H1 a xs)/\R (Itl X.K a) H1)\/((∃ xs,SqT X.K H1 a xs)/\R (Itt X.K a) H1)))\/∃ z,x=.str z/\R (Its z) H1):=by
 refine ⟨?_⟩
 intro pins s σ H R I h
 refine thn (hl pins s σ H _ I h) fun v s1 ⟨x,H1,I1,r1,q1⟩=>?_
 have fp:∀ b∈[s1.heap.objs.size],Kf X pins H1 b:=fun b hb=>by
  have e:b=s1.heap.objs.size:=by simpa using hb
  subst e
  exact I1.fpOk (ax _) (I1.hok.fresh (ax _))
 rcases q1 with ⟨a,rfl,q⟩ | ⟨z,rfl,q⟩
 ·cases r1
  rcases q with ⟨⟨xs,hq⟩,q⟩ | ⟨⟨xs,hq⟩,q⟩
  ·obtain ⟨its,rv,p,hz⟩:=I1.list hq
   refine wpAny_pyIter_list p.isList ?_
   exact ⟨s1.heap.objs.size,[s1.heap.objs.size],_,_,H1,rfl,I1.kept (t':=s1.toks) fun b o e=>aa _ e,UF a _,⟨_,ag _ rfl,rfl,rfl⟩,fp,q⟩
  ·obtain ⟨its,rv,p,hz⟩:=I1.tuple hq
   refine wpAny_pyIter_tuple (show s1.heap.IsTuple a its.toArray from p) ?_
   exact ⟨s1.heap.objs.size,[s1.heap.objs.size],_,_,H1,rfl,I1.kept (t':=s1.toks) fun b o e=>aa _ e,WR a _,⟨_,ag _ rfl,rfl,rfl⟩,fp,q⟩
 ·obtain ⟨t,rfl⟩:=r1
  cases ha:z.cps.all (· < 128) with
  | true=>
   refine wpAny_pyIter_ascii ha ?_
   exact ⟨s1.heap.objs.size,[s1.heap.objs.size],_,_,H1,rfl,I1.kept (t':=s1.toks) fun b o e=>aa _ e,Wi _ z t "str_ascii_iterator" (by decide) (fun A hA=>Walks.strAscii hA _ z t) (fun A i s Q E st h=>wpAny_pyIter_striter_ascii st h),⟨⟨_,ag _ rfl,rfl,rfl⟩,bt _⟩,fp,q⟩
  | false=>
   refine wpAny_pyIter_wide ha ?_
   exact ⟨s1.heap.objs.size,[s1.heap.objs.size],_,_,H1,rfl,I1.kept (t':=s1.toks) fun b o e=>aa _ e,Wi _ z t "str_iterator" (by decide) (fun A hA=>Walks.strWide hA _ z t) (fun A i s Q E st h=>wpAny_pyIter_striter_wide st h),⟨⟨_,ag _ rfl,rfl,rfl⟩,bt _⟩,fp,q⟩
theorem jr (hK:C.K=X.K) (h:PE X e (tE C own m f)) (hm:m≠.any:=by decide):PI X tg e (tIt C own (wt f)):=by
 refine qbJ (qdz (vg h hm)) fun σ H R ⟨F,ρ,rp,h⟩=>⟨F,ρ,rp,PoI.bindV h fun v F1 H1 d ρ1 rp1 c1 mo1 h1=>?_⟩
 have mo1:Is C.K F1 v d:=mo1
 cases mo1 with
 | lst p t=>exact .inl ⟨_,rfl,.inl ⟨⟨_,by rw [<-hK]; exact rp1.sub.seq p⟩,by rw [<-hK]; exact h1 _ F1 H1 rp1 c1 (qdp p t)⟩⟩
 | tup p t=>exact .inl ⟨_,rfl,.inr ⟨⟨_,by rw [<-hK]; exact qD rp1.sub p⟩,by rw [<-hK]; exact h1 _ F1 H1 rp1 c1 (qdq p t)⟩⟩
 | str hz=>exact .inr ⟨_,rfl,h1 _ F1 H1 rp1 c1 qdy⟩
 | _=>exact h1.elim
end
end L2.D2
namespace L2.D2
open PySem PySem.Spec PySem.Calls PyProof.Rows PySem.W Builtin Builtin.ObjectAttr Builtin.Getset_descriptor
noncomputable def xcB (K:Frag) (C:Addr):Bool:=decide (subIn K (.ref C) (.type "BaseException")=some true)&&decide (findIn K (.ref C) "__getattribute__"=some (some (.builtin "BaseException.__getattribute__")))&&decide (findIn K (.ref C) "__getattr__"=some none) &&
 decide (findIn K (.ref C) "__class__"=some (some (.builtin "object.__class__")))&&decide (mroIn K C (.type "object")=some true)&&(clsIn K C).isSome
end L2.D2
namespace L2.D2
open PySem PySem.Spec PyProof.Rows
variable {P:Program} {w:World} {K:Frag} {N:List Str} {A:Around} {C:Ct}
theorem yL {mg:Str->Option Value} {base:Heap} {qual:Str} {scope:Scope} {f:Addr} {cd:Value} {outer:List Env} {s0:Shared} {H0:Hp} {E:XK} (h:C.E=E):YA (cxk P w K mg base N qual scope f cd A outer s0 H0 E) C:=by
 subst h
 exact qdu
noncomputable def qaJ (ca:Str->Addr) (cs:List Str) (c:Str):Option Addr:=if c∈cs then some (ca c) else none
structure Xs (K:Frag) (cv:Str->Value) (ca:Str->Addr) (cs:List Str) (top:Str):Prop where
 val:∀ c∈cs,cv c=.ref (ca c)
 own:∀ c∈cs,bU K (.ref (ca c)) (cv top)=some true
 cls:∀ c∈cs,xcB K (ca c)=true
 kit:∀ c∈cs,∀ d∈cs,cD K (.ref (ca c)) (.ref (ca d))=some (decide (ca c=ca d))
 ve:∀ c∈cs,cD K (.ref (ca c)) (.type "ValueError")=some true
section
variable {cv:Str->Value} {ca:Str->Addr} {cs:List Str} {top:Str}
theorem Xs.hit (z:Xs K cv ca cs top):∀ c Cc,qaJ ca cs c=some Cc->cv c=.ref Cc/\bU K (.ref Cc) (cv top)=some true:=fun c Cc h=>by
 unfold qaJ at h
 split at h
 ·cases h
  exact ⟨z.val c (by assumption),z.own c (by assumption)⟩
 ·cases h
end
variable {E:Value->Shared->Prop} {prog:Program} {s:Shared} {a it:Addr} {xs items:Array Value}
section
theorem Uh:typeLookup (.type "tuple") "keys"=pure none:=by rw [typeLookup_type,builtinLookup_eq_fast]; kernel_rfl
theorem zQ {o:Obj} {k:Nat} {Q:Option Value->Shared->Prop} (hh:A.handled=none) (hx:s.heap.get? a=some o) (hc:o.cls=.type "tuple") (hdat:o.data=.seq xs k) (hd:o.dict=none)
  (h:∀ h' tk,(∀ b ob,s.heap.get? b=some ob->h'.get? b=some ob)->Q none { s with heap:=h',toks:=tk }):wpAny (model prog w) A (getAttr? (.ref a) "keys") Q E s:=by
 obtain ⟨c,dct,dat,sl⟩:=o
 simp only at hc hdat hd
 subst hc hdat hd
 obtain ⟨hp,g,d,tk,os⟩:=s
 have hT:∀ tk',(⟨hp,g,d,tk',os⟩:Shared).TypeIs (.ref a) "tuple":=fun _=>⟨_,hx,rfl⟩
 have f1:=sub_AttributeError
 have f3:=dD.lookup
 have f4:=dD.bind (.ref a)
 have f5:=am_tuple_getattr_none
 have f6:=Uh
 have hnm:(["__module__", "__name__", "__qualname__", "__doc__", "__annotations__"]:List Str).contains ("keys":Str)=false:=by decide +kernel
 have hsz:("keys":Str).length+100<=sizeLine:=by rw [sizeLine_eq]; decide +kernel
 unfold getAttr? getAttrBy?
 refine wpAny_bind (wpAny_mkText (wpAny_bind (wpAny_attempt ?_)))
 unfold getAttrBy
 repeat (any_goals (first | assumption | exact hT _ | ((with_reducible show wpAny _ _ (call (Value.builtin "tuple.__getattribute__") _ _) _ _ _); refine call_meets dD (hT _) am_entry_tuple_getattribute (F.args_tuple_getattribute_2 _ _) (meets_getattribute_miss_tuple a xs k sl "keys" _ f6 hnm hsz) ⟨hx,hh,fun h' tk' e hx'=>?_⟩) | wp_step))
 obtain ⟨t',u',he⟩:=hx'.there
 show wpAny _ _ (getattributeRaised _ _ _ _ _ _ _) _ _ _
 unfold getattributeRaised
 repeat (any_goals (first | assumption | wp_step))
 exact h h' tk' hx'.keeps
theorem yM:entryFor table "dict.update.loop"=some Builtin.«dict.update.loop»:=entryFor_of_tree (by kernel_rfl)
theorem kj:plainId "dict.update.loop"=true:=by decide +kernel
def YJ (h:Heap) (v key val:Value):Prop:=∃ p o n,v=.ref p/\h.get? p=some o/\o.cls=.type "tuple"/\o.data=.seq #[key,val] n
theorem Go {R:Result->Shared->Prop} {d t:Addr} (hh:A.in1.handled=none) (hdt:d≠t) (hdi:d≠it) (hti:t≠it):∀ (n i:Nat) (s:Shared) (kvs:List (Key×Value)) (ps:List (Key×Value×Value)),items.size - i=n->i<=items.size ->
  s.heap.IsTupleIter it t i->s.heap.IsTuple t items->s.heap.DictOf (jh prog w) d kvs->ps.length=n->(∀ j p,ps[j]?=some p->∃ v,items[i+j]?=some v/\zK p.1 p.2.1=true/\YJ s.heap v p.2.1 p.2.2)->kvs.length+n<=sizeLine ->
  (∀ h' tk,h'.DictOf (jh prog w) d (ps.foldl (fun l p=>stored l p.1 p.2.2) kvs)->(∀ b o,b≠d->b≠it->s.heap.get? b=some o->h'.get? b=some o)->R (.ok (.ret .none)) { s with heap:=h',toks:=tk }) ->
  codeAny (model prog w) A (.builtin "dict.update.loop" ⟨[.ref d,.ref it,rawInt i,.none],[]⟩) R s:=by
 intro n
 induction n with
 | zero=>
  intro i s kvs ps hn hi st ht hd hl hp hz hR
  have e:ps=[]:=dU.mp hl
  subst e
  refine codeAny_builtin yM ?_
  rw [bE kj _]
  show wpAny _ A.in1 (pyNext (.ref it) >>= _) _ _ s
  refine wpAny_bind (wpAny_pyNext_tuple_end hh st ht (by simp; omega) fun h' eb=>?_)
  show wpAny _ A.in1 (ret ck) _ _ _
  refine wpAny_pure (hR h' s.toks ?_ fun b o _ h2 e=>eb b o h2 e)
  obtain ⟨o,es,ep,ho,r⟩:=hd
  exact ⟨o,es,ep,eb d o hdi ho,r⟩
 | succ n ih=>
  intro i s kvs ps hn hi st ht hd hl hp hz hR
  cases ps with
  | nil=>simp at hl
  | cons p ps=>
   obtain ⟨v,hv,hk,q,oq,nq,rfl,hq,hqc,hqd⟩:=hp 0 p rfl
   obtain ⟨od,es,ep,hod,hdx,hrest⟩:=id hd
   have nqd:q≠d:=fun z=>by
    subst z
    rw [hq] at hod; cases hod
    rw [hrest.1] at hqd; cases hqd
   obtain ⟨oi,hoi,hic,hid⟩:=id st
   have nqi:q≠it:=fun z=>by
    subst z
    rw [hq] at hoi; cases hoi
    rw [hid] at hqd; cases hqd
   refine codeAny_builtin yM ?_
   rw [bE kj _]
   show wpAny _ A.in1 (pyNext (.ref it) >>= _) _ _ s
   refine wpAny_bind (wpAny_pyNext_tuple_item st ht (x:=.ref q) (by simpa using hv) fun h' st' sb=>?_)
   have hq':h'.get? q=some oq:=(sb.2 q nqi).trans hq
   have hTq:eF { s with heap:=h' } (.ref q) "tuple":=⟨oq,hq',hqc⟩
   have hd':h'.DictOf (jh prog w) d kvs:=by
    obtain ⟨o,es,ep,ho,r⟩:=hd
    exact ⟨o,es,ep,(sb.2 d hdi).trans ho,r⟩
   have ht':h'.IsTuple t items:=by
    obtain ⟨o,ho,r⟩:=ht
    exact ⟨o,(sb.2 t hti).trans ho,r⟩
   dsimp only
   refine wpAny_bind (wpAny_holding (wpAny_bind ?_))
   refine wpAny_tryCatch ?_
   unfold Builtin.Dict.pairItems
   refine wpAny_bind (wpAny_typeOf hTq ?_)
   rw [if_pos (by decide)]
   refine wpAny_bind (wpAny_seqItems hq' hqd (wpAny_pure ?_))
   show wpAny _ A.in1 (holding [p.2.1,p.2.2] (dictSet d p.2.1 p.2.2)) _ _ _
   refine wpAny_holding (wpAny_dictSet_pairs (knd:=jh prog w) hk hd' (fun h2 hd2 sb2=>?_) (by omega))
   have keep:∀ b o,b≠d->b≠it->s.heap.get? b=some o->h2.get? b=some o:=fun b o n1 n2 e=>(sb2.2 b n1).trans ((sb.2 b n2).trans e)
   have hlen:(stored kvs p.1 p.2.2).length<=kvs.length+1:=by
    unfold stored
    split <;> simp
   refine wpAny_pure ⟨plainId_quiet kj _,?_⟩
   have ec:rawInt ((i:Int)+1)=rawInt ((i+1:Nat):Int):=by push_cast; rfl
   rw [ec]
   refine ih (i+1) _ (stored kvs p.1 p.2.2) ps (by omega) (by omega) ?_ ?_ hd2 (by simpa using hl) (fun j p' e=>?_) (by omega) fun h3 tk hd3 k3=>?_
   ·obtain ⟨o,e,r⟩:=st'
    exact ⟨o,(sb2.2 it (aX hdi)).trans e,r⟩
   ·obtain ⟨o,e,r⟩:=ht'
    exact ⟨o,(sb2.2 t (aX hdt)).trans e,r⟩
   ·obtain ⟨v',hv',hk',q',oq',nq',rfl,hq2,hqc2,hqd2⟩:=hp (j+1) p' (by simpa using e)
    refine ⟨.ref q',by rw [show i+1+j=i+(j+1) by omega]; exact hv',hk',q',oq',nq',rfl,keep q' oq' (fun z=>?_) (fun z=>?_) hq2,hqc2,hqd2⟩
    ·subst z
     rw [hq2] at hod; cases hod
     rw [hrest.1] at hqd2; cases hqd2
    ·subst z
     rw [hq2] at hoi; cases hoi
     rw [hid] at hqd2; cases hqd2
   ·exact hR h3 tk hd3 fun b o n1 n2 e=>k3 b o n1 n2 (keep b o n1 n2 e)
theorem xU {t:Addr} {ps:List (Key×Value×Value)} {Q:Value->Shared->Prop} (hh:A.handled=none) {ot:Obj} {nt:Nat} (hot:s.heap.get? t=some ot) (hotc:ot.cls=.type "tuple") (hotd:ot.dict=none) (hots:ot.data=.seq items nt)
  (hl:ps.length=items.size) (hp:∀ (j:Nat) (p:Key×Value×Value),ps[j]?=some p->∃ v,items[j]?=some v/\zK p.1 p.2.1=true/\YJ s.heap v p.2.1 p.2.2) (hz:items.size<=sizeLine)
  (h:∀ h' tk,h'.DictOf (jh prog w) s.heap.objs.size (ps.foldl (fun l p=>stored l p.1 p.2.2) [])->(∀ b o,s.heap.get? b=some o->h'.get? b=some o)->Q (.ref s.heap.objs.size) { s with heap:=h',toks:=tk }) :
  wpAny (model prog w) A (call (.type "dict") [.ref t]) Q E s:=by
 refine callType_codes (Q₁:=fun obj s₁=>obj=.ref s.heap.objs.size/\s₁={ s with heap:=s.heap.push { cls:=.type "dict",data:=.dict #[] } }) F.kt_called_dict (F.kt_typeCall_dict_1 _) F.entry_dict_init (kt_code_dict_new _ ⟨rfl,rfl⟩) ?_
 rintro obj s₁ ⟨rfl,rfl⟩
 have hnew:(s.heap.push { cls:=.type "dict",data:=.dict #[] }).DictOf (jh prog w) s.heap.objs.size []:=Heap.DictOf.new s.heap
 refine ⟨hnew.typeIs,F.args_dict_init_2 _ _,?_⟩
 unfold Builtin.«dict.__init__»
 refine wpAny_bind ?_
 unfold Builtin.Dict.selfAndRest
 refine wpAny_bind (wpAny_notOrdered_dict hnew.typeIs ?_)
 show wpAny _ _ (pure (s.heap.objs.size,[bQ t])) _ _ _
 refine wpAny_pure ?_
 show wpAny _ _ (Builtin.Dict.updateFrom "dict.__init__" s.heap.objs.size (.ref t) [] .none) _ _ _
 unfold Builtin.Dict.updateFrom
 have hot':(s.heap.push { cls:=.type "dict",data:=.dict #[] }).get? t=some ot:=aa _ hot
 have hlt:t < s.heap.objs.size:=ap hot
 refine wpAny_bind (wpAny_typeOf (T := "tuple") ⟨ot,hot',hotc⟩ ?_)
 rw [if_pos (by decide)]
 refine wpAny_bind (zQ (by exact hh) hot' hotc hots hotd fun h1 tk1 k1=>?_)
 rw [if_pos (show (none:Option Value).isNone=true from rfl)]
 refine wpAny_bind (wpAny_rule ?_)
 have ht1:h1.get? t=some ot:=k1 _ _ hot'
 have hd1:h1.DictOf (jh prog w) s.heap.objs.size []:=by
  obtain ⟨o,es,ep,ho,r⟩:=hnew
  exact ⟨o,es,ep,k1 _ _ ho,r⟩
 have htup:h1.IsTuple t items:=⟨ot,ht1,hotc,nt,hots⟩
 refine wpAny_bind (wpAny_pyIter_tuple (s:={ s with heap:=h1,toks:=tk1 }) htup ?_)
 have hs1:s.heap.objs.size < h1.objs.size:=let ⟨o,es,ep,ho,r⟩:=hd1; ap ho
 have up:∀ b o,s.heap.get? b=some o->(h1.push { cls:=.type "tuple_iterator",data:=.fields #[.ref t,.int 0 0] }).get? b=some o:=fun b o e=>aa _ (k1 _ _ (aa _ e))
 refine wpAny_pure ⟨plainId_quiet kj _,?_⟩
 refine Go (items:=items) (t:=t) (A:=A.in1) (show A.in1.in1.handled=none from hh) (dw hlt) (ay hs1) (ay (d9 hlt hs1)) items.size 0 _ [] ps (by omega) (bt _) ⟨_,ag _ rfl,rfl,rfl⟩ ?_ ?_ hl (fun j p e=>?_) (by simpa using hz) fun h2 tk2 hd2 k2=>⟨rfl,h h2 tk2 hd2 fun b o e=>?_⟩
 ·exact ⟨ot,aa _ ht1,hotc,nt,hots⟩
 ·obtain ⟨o,es,ep,ho,r⟩:=hd1
  exact ⟨o,es,ep,aa _ ho,r⟩
 ·obtain ⟨v,hv,hk,q,oq,nq,rfl,hq,r⟩:=hp j p e
  exact ⟨.ref q,by simpa using hv,hk,q,oq,nq,rfl,up q oq hq,r⟩
 ·have hb:=ap e
  exact k2 b o (ay hb) (ay (d9 hb hs1)) (up b o e)
end
noncomputable def Gp:D->Option Key
 | .int i=>some (.inl i)
 | .str x=>some (.inr x)
 | _=>none
noncomputable def Gq (kvs:List (Key×D)) (k:Key) (d:D):List (Key×D):=if kvs.any (fun p=>decide (p.1=k)) then kvs.map fun p=>if p.1=k then (p.1,d) else p else kvs++[(k,d)]
noncomputable def Gr:D->Option (Key×D)
 | .tup [k,v]=>(Gp k).map fun k=>(k,v)
 | _=>none
noncomputable def yN:List D->Option (List (Key×D))
 | []=>some []
 | d::ds=>match Gr d,yN ds with
  | some p,some ps=>some (p::ps)
  | _,_=>none
noncomputable def zR:D->Out D
 | .tup ds=>match yN ds with
  | some ps=>.ok (.dct (ps.foldl (fun l p=>Gq l p.1 p.2) []))
  | none=>.bad
 | _=>.bad
variable {F:Hp}
theorem IsK.any {k:Key}:∀ {kv:List (Key×V)} {ks:List (Key×D)},IsK K F kv ks->(kv.any fun p=>decide (p.1=k))=(ks.any fun p=>decide (p.1=k))
 | _,_,.nil=>rfl
 | _,_,.cons h t=>by rw [c7,c7,IsK.any t]
variable {d:D} {v:V}
theorem IsK.repl {k:Key} (i:Is K F v d):∀ {kv:List (Key×V)} {ks:List (Key×D)},IsK K F kv ks->IsK K F (kv.map fun p=>if p.1=k then (p.1,v) else p) (ks.map fun p=>if p.1=k then (p.1,d) else p)
 | _,_,.nil=>.nil
 | _,_,.cons (k:=k') h t=>by
  rw [aA,aA]
  by_cases e:k'=k
  ·simp only [e,if_true]; exact .cons i (IsK.repl i t)
  ·simp only [e,if_false]; exact .cons h (IsK.repl i t)
theorem IsK.snoc {k:Key} (i:Is K F v d):∀ {kv:List (Key×V)} {ks:List (Key×D)},IsK K F kv ks->IsK K F (kv++[(k,v)]) (ks++[(k,d)])
 | _,_,.nil=>.cons i .nil
 | _,_,.cons h t=>.cons h (IsK.snoc i t)
variable {kv:List (Key×V)}
theorem IsK.put {k:Key} {ks:List (Key×D)} (h:IsK K F kv ks) (i:Is K F v d):IsK K F (Kg kv k v) (Gq ks k d):=by
 unfold Kg Gq
 rw [h.any]
 by_cases e:(ks.any fun p=>decide (p.1=k))=true
 ·rw [if_pos e,if_pos e]; exact IsK.repl i h
 ·rw [if_neg e,if_neg e]; exact IsK.snoc i h
theorem Wj:∀ {pv:List (Key×V)} {ps:List (Key×D)} {kv:List (Key×V)} {ks:List (Key×D)},IsK K F pv ps->IsK K F kv ks->IsK K F (pv.foldl (fun l p=>Kg l p.1 p.2) kv) (ps.foldl (fun l p=>Gq l p.1 p.2) ks)
 | _,_,_,_,.nil,h=>h
 | _,_,_,_,.cons i t,h=>by
  rw [bO,bO]
  exact Wj t (h.put i)
def qfM (p:Key×V) (q:Key×Value×Value):Prop:=p.1=q.1/\RelV p.2 q.2.2
theorem YK:∀ {pv:List (Key×V)} {tr:List (Key×Value×Value)} {kv:List (Key×V)} {vs:List (Key×Value)},Paired qfM pv tr->KV kv vs->KV (pv.foldl (fun l p=>Kg l p.1 p.2) kv) (tr.foldl (fun l p=>stored l p.1 p.2.2) vs)
 | _,_,_,_,.nil,h=>h
 | _,_,_,_,.cons r t,h=>by
  rw [bO,bO]
  refine YK t ?_
  rw [r.1]
  exact h.put _ r.2
theorem Wk:∀ {pv:List (Key×V)} {kv:List (Key×V)},(pv.foldl (fun l p=>Kg l p.1 p.2) kv).length<=kv.length+pv.length
 | [],kv=>ax _
 | p::pv,kv=>by
  have h1:=@Wk pv (Kg kv p.1 p.2)
  have h2:=Ks kv p.1 p.2
  rw [bO,ae]
  omega
variable {X:Cx} {pins:List (Addr×Obj)} {σ:St} {H:Hp} {u:Value}
section
theorem ge {k:Key} (i:Is C.K F v d) (r:RelV v u) (e:Gp d=some k):zK k u=true:=by
 cases d with
 | int z=>cases i; cases e; obtain ⟨t,rfl⟩:=r; exact QL z t
 | str z=>cases i; cases e; obtain ⟨t,rfl⟩:=r; exact QM z t
 | _=>cases e
theorem Wl (hK:C.K=X.K) (I:Inv X pins σ H s) (sb:Same F H):∀ {vs:List V} {us:List Value} {ds:List D} {ps:List (Key×D)},IsL C.K F vs ds->Vals vs us->yN ds=some ps ->
  ∃ (pv:List (Key×V)) (tr:List (Key×Value×Value)),IsK C.K F pv ps/\Paired qfM pv tr/\tr.length=us.length/\pv.length=us.length/\∀ (j:Nat) (p:Key×Value×Value),tr[j]?=some p->∃ v,us[j]?=some v/\zK p.1 p.2.1=true/\YJ s.heap v p.2.1 p.2.2
 | _,_,_,_,.nil,.nil,e=>by cases e; exact ⟨[],[],.nil,.nil,rfl,rfl,fun j p e=>by simp at e⟩
 | _,_,_,_,.cons (d:=d) (ds:=ds) i t,.cons (b:=u) r rs,e=>by
  unfold yN at e
  cases q1:Gr d with
  | none=>rw [q1] at e; cases e
  | some kd=>
   cases q2:yN ds with
   | none=>rw [q1,q2] at e; cases e
   | some rest=>
    rw [q1,q2] at e
    cases e
    obtain ⟨pv,tr,h1,h2,h3,h3',h4⟩:=Wl hK I sb t rs q2
    unfold Gr at q1
    split at q1
    ·rename_i dk dv
     obtain ⟨k,hk,rfl⟩:=bP.mp q1
     cases i with
     | @tup a xs _ hq il=>
      cases il with
      | @cons xk _ xr _ ik il2=>
       cases il2 with
       | @cons xv _ xr2 _ iv il3=>
        cases il3
        cases r
        obtain ⟨its,rv,⟨o,ho,hc,n,hd⟩,_⟩:=I.tuple (show SqT X.K H a [xk,xv] by rw [<-hK]; exact qD sb hq)
        cases rv with
        | @cons _ uk _ _ rk rv2=>
         cases rv2 with
         | @cons _ uv _ _ rv3 rv4=>
          cases rv4
          refine ⟨(k,xv)::pv,(k,uk,uv)::tr,.cons iv h1,.cons ⟨rfl,rv3⟩ h2,by simp [h3],by simp [h3'],fun j p e=>?_⟩
          cases j with
          | zero=>
           simp at e
           subst e
           exact ⟨_,rfl,ge ik rk hk,a,o,n,rfl,ho,hc,hd⟩
          | succ j=>simpa using h4 j p (by simpa using e)
    ·cases q1
theorem YL (hK:C.K=X.K) (hc:X.calm=true):Jg X C .fr (.type "dict") zR:=by
 intro pins s σ H xs us Q I r h
 obtain ⟨x,F,dx,rfl,sb,tx,po⟩:=h
 cases dx <;> try exact po.elim
 rename_i ds
 unfold zR at po
 cases q:yN ds with
 | none=>simp only [q] at po; exact po.elim
 | some ps=>
  simp only [q] at po
  obtain ⟨a,vs,rfl,hq,t⟩:=tx.tup sb
  obtain ⟨u,rfl,ru⟩:=xc r
  cases ru
  have hq':SqT X.K H a vs:=by rw [<-hK]; exact hq
  obtain ⟨its,rv,⟨o,ho,hcl,n,hd⟩,hz⟩:=I.tuple hq'
  obtain ⟨o2,ho2,hdn⟩:=I.tupleN hq'
  rw [ho] at ho2; cases ho2
  obtain ⟨pv,tr,h1,h2,h3,h3',h4⟩:=Wl hK I sb t rv q
  have hlen:=rv.length
  refine xU (ps:=tr) (I.ok.hd hc) ho hcl hdn hd (by simp [h3]) (fun j p e=>?_) (by simp; omega) fun h' tk hd' kp=>?_
  ·obtain ⟨v,e1,e2⟩:=h4 j p e
   exact ⟨v,by simpa using e1,e2⟩
  ·have hp:H s.heap.objs.size=none:=I.hok.fresh (ax _)
   obtain ⟨s2,c2,hF⟩:=wy (u:=.dK (pv.foldl (fun l p=>Kg l p.1 p.2) [])) sb hp
   have hl:(pv.foldl (fun l p=>Kg l p.1 p.2) ([]:List (Key×V))).length<=sizeLine:=by
    have:=@Wk pv []
    simp at this
    omega
   have hsys:(s.heap.objs.size == sysModules)=false:=beq_eq_false_iff_ne.mpr (dw I.big)
   refine ⟨.ref s.heap.objs.size,_,I.laid (o:=.dK (pv.foldl (fun l p=>Kg l p.1 p.2) [])) (t':=tk) kp (ax _) (qdh hl hsys (YK h2 .nil) hd'),rfl,po _ F _ s2 c2 ⟨_,rfl,hp,hF,_,qm,Wj h1 .nil⟩⟩
noncomputable def qdA (kvs:List (Key×D)) (k:Key):Bool:=kvs.any fun p=>decide (p.1=k)
noncomputable def inA:D->D->Out D
 | x,.dct kvs=>match Gp x with
  | some k=>.ok (.bl (qdA kvs k))
  | none=>.bad
 | x,y=>qcF x y
noncomputable def qaK:D->D->Out D
 | x,.dct kvs=>match Gp x with
  | some k=>.ok (.bl (!qdA kvs k))
  | none=>.bad
 | x,y=>Ub x y
theorem Wm {ks:List (Key×D)} {k:Key} (h:IsK K F kv ks):(VN kv k).isSome=qdA ks k:=by
 rw [<-VO,h.any]; rfl
theorem qfN {k:Key} (h:TopIs C.K F H v d) (e:Gp d=some k):v=kV k:=by
 cases d with
 | int z=>cases e; exact h.int
 | str z=>cases e; exact h.str.1
 | _=>cases e
theorem qaL (hK:C.K=X.K) (hu:X.A.units+64 < cLine):OpD X C .sh (compareOp .In) inA:=by
 intro pins s σ H x y v u Q I rx ry h
 obtain ⟨F,dx,dy,sb,tx,ty,po⟩:=h
 by_cases hd:∃ kvs,dy=.dct kvs
 ·obtain ⟨kvs,rfl⟩:=hd
  cases q:Gp dx with
  | none=>unfold inA at po; simp only [q] at po; exact po.elim
  | some k=>
   unfold inA at po
   simp only [q] at po
   obtain ⟨a,kv,rfl,hH,ik⟩:=ty.dct sb
   cases ry
   have ex:=qfN tx q
   subst ex
   refine qgi (by omega) I (DGet.k (k:=k) hH) rx fun s' I'=>⟨.bl _,H,I',rfl,?_⟩
   rw [Wm ik]
   exact po _ F H sb .refl (.bl _)
 ·have e:inA dx dy=qcF dx dy:=by
   cases dy <;> first | rfl | exact absurd ⟨_,rfl⟩ hd
  rw [e] at po
  exact qe7 hK hu pins s σ H x y v u Q I rx ry ⟨F,dx,dy,sb,tx,ty,po⟩
theorem YM (hK:C.K=X.K) (hu:X.A.units+64 < cLine):OpD X C .sh (compareOp .NotIn) qaK:=by
 intro pins s σ H x y v u Q I rx ry h
 obtain ⟨F,dx,dy,sb,tx,ty,po⟩:=h
 by_cases hd:∃ kvs,dy=.dct kvs
 ·obtain ⟨kvs,rfl⟩:=hd
  cases q:Gp dx with
  | none=>unfold qaK at po; simp only [q] at po; exact po.elim
  | some k=>
   unfold qaK at po
   simp only [q] at po
   obtain ⟨a,kv,rfl,hH,ik⟩:=ty.dct sb
   cases ry
   have ex:=qfN tx q
   subst ex
   refine qbw (by omega) I (DGet.k (k:=k) hH) rx fun s' I'=>⟨.bl _,H,I',rfl,?_⟩
   rw [Wm ik]
   exact po _ F H sb .refl (.bl _)
 ·have e:qaK dx dy=Ub dx dy:=by
   cases dy <;> first | rfl | exact absurd ⟨_,rfl⟩ hd
  rw [e] at po
  exact ZX hK hu pins s σ H x y v u Q I rx ry ⟨F,dx,dy,sb,tx,ty,po⟩
end
theorem qbR (t:SetTable) (es:Array (Int×Value)) (h:Int) (x:Value):(layNew t es h x).2.1.led=t.led:=by
 unfold layNew
 cases t.freeSlot h with
 | none=>rfl
 | some p=>
  obtain ⟨sl,wd⟩:=p
  show (dQ (t.put sl).1 _).led=t.led
  unfold dQ
  split <;> rfl
theorem YN {t:SetTable} (es:Array (Int×Value)) (h:Int) (x:Value) (e:t.plain=false):(layNew t es h x).2.1.plain=false:=by
 unfold layNew
 cases t.freeSlot h with
 | none=>rfl
 | some p=>
  obtain ⟨sl,wd⟩:=p
  show (dQ (t.put sl).1 _).plain=false
  unfold dQ
  split
  ·exact e
  ·rfl
theorem qbS {m f v:Nat} {l p:Bool} {hs:Array Int} {t:SetTable} {o:Array Nat} (h:fC m f v l p hs=some (t,o)):t.led=l/\t.plain=p:=by
 unfold fC at h
 cases e:SetTable.layClean m hs with
 | none=>
  rw [e] at h
  cases h
 | some ow=>
  rw [e] at h
  have h2:=congrArg Prod.fst (br.inj h)
  subst h2
  exact ⟨rfl,rfl⟩
theorem KG (t:SetTable) (es:Array (Int×Value)) (n:Nat):(relayAll t es n).2.1.led=t.led/\(t.plain=false->(relayAll t es n).2.1.plain=false):=by
 unfold relayAll
 cases e:t.relaid (es.map (·.1)) n with
 | none=>exact ⟨rfl,fun _=>rfl⟩
 | some q=>
  obtain ⟨t',o⟩:=q
  have hk:=qbS (show fC _ _ _ _ _ _=some (t',o) from e)
  dsimp only
  split
  ·exact ⟨hk.1,fun z=>hk.2.trans z⟩
  ·exact ⟨rfl,fun _=>rfl⟩
noncomputable def jU (ks:List Str) (x:Str):List Str:=if x∈ks then ks else ks++[x]
noncomputable def jC (es:Array (Int×Value)) (ep:Nat) (t:SetTable):Obj:={ cls:=.type "set",dict:=none,data:=.set es ep t,slots:=#[] }
structure SetD (prog:Program) (w:World) (es:Array (Int×Value)) (t:SetTable) (ks:List Str):Prop where
 el:ElemsOf (bv prog w) es.toList
 perm:(es.toList.map fun e=>strOf e.2).Perm ks
 nd:ks.Nodup
 bd:es.size < scanBound
 fits:t.fits es.size=true
 led:t.led=!(w.params.followText "set-order")
 plain:ks≠[]->t.plain=false
def SetS (prog:Program) (w:World) (h:Heap) (a:Addr) (ks:List Str):Prop:=∃ es ep t,h.get? a=some (jC es ep t)/\SetD prog w es t ks
variable {ks:List Str} {x y:Str} {es:Array (Int×Value)} {h:Heap} {ep:Nat}
section
theorem YO {l:List (Int×Value)} (h:ElemsOf (bv prog w) l) {e:Int×Value} (he:e∈l):∃ x t,e.2=.str x t:=by
 obtain ⟨⟨k,hk,_⟩,_⟩:=h e he
 obtain ⟨t,ht⟩:=Value.isStrOf_shape hk
 exact ⟨k,t,ht⟩
theorem isS {t:Tok}:(bv prog w).is x (.str y t)=decide (x=y):=by
 have h:(bv prog w).is y (.str y t)=true:=by
  show e8 y (.str y t)=true
  simp [e8]
 exact KeyKind.is_eq_decide h x
theorem SetD.mem {t:SetTable} (h:SetD prog w es t ks):x∈ks↔∃ e∈es.toList,(bv prog w).is x e.2=true:=by
 rw [<-h.perm.mem_iff,aH]
 constructor
 ·rintro ⟨e,he,z⟩
  obtain ⟨y,t,hy⟩:=YO h.el he
  refine ⟨e,he,?_⟩
  rw [hy] at z ⊢
  rw [isS]
  exact decide_eq_true z.symm
 ·rintro ⟨e,he,z⟩
  obtain ⟨y,t,hy⟩:=YO h.el he
  refine ⟨e,he,?_⟩
  rw [hy] at z ⊢
  rw [isS] at z
  exact (of_decide_eq_true z).symm
theorem SetD.size {t:SetTable} (h:SetD prog w es t ks):es.size=ks.length:=by
 have e:=h.perm.length_eq
 simpa using e
theorem Wn {es':Array (Int×Value)} {t t':SetTable} (ho:h.get? a=some (jC es ep t)):(h.update a (eT es' t')).get? a=some (jC es' (ep+1) t'):=by
 have e:=bw (eT es' t') ho (by rw [putSet_of (o:=jC es ep t) es' t' rfl]; rfl)
 rw [putSet_of (o:=jC es ep t) es' t' rfl] at e
 exact e
theorem SetD.more {es1:Array (Int×Value)} {t t1:SetTable} {tk:Tok} (h:SetD prog w es t ks) (nx:x∉ks) (hr:ks.length+1 < scanBound)
  (hp:es1.toList.Perm (es.toList++[((bv prog w).hash x,.str x tk)])) (hf:t1.fits es1.size=true) (hl:t1.led=t.led) (hq:t1.plain=false):SetD prog w es1 t1 (jU ks x):=by
 have ex:jU ks x=ks++[x]:=if_neg nx
 have hz:es1.size=ks.length+1:=by
  rw [<-cy,hp.length_eq,am,cy,h.size]
  rfl
 rw [ex]
 refine ⟨(h.el.push (by rw [isS]; exact decide_eq_true rfl) rfl).perm hp,?_,?_,?_,hf,hl.trans h.led,fun _=>hq⟩
 ·refine (hp.map _).trans ?_
  rw [cI]
  exact h.perm.append (cq _)
 ·exact eh.mpr ⟨h.nd,by simp,fun a ha b hb=>by rw [aC.mp hb]; exact fun z=>nx (z ▸ ha)⟩
 ·rw [hz]
  exact hr
theorem qbT {x:Str} {tk:Tok} {Q:Bool->Shared->Prop} (hS:SetS prog w s.heap a ks) (hr:ks.length+1 < scanBound)
  (h:∀ h' b,bA a s.heap h'->SetS prog w h' a (jU ks x)->Q b { s with heap:=h' }):wpAny (model prog w) A (setAddHashed a (.str x tk) ((bv prog w).hash x)) Q E s:=by
 obtain ⟨es,ep,t,ho,d⟩:=hS
 have hk:(bv prog w).is x (.str x tk)=true:=by rw [isS]; exact decide_eq_true rfl
 unfold setAddHashed setAddHashedIn
 refine wpAny_holding (wpAny_bind (wpAny_setState_of ho rfl d.fits ?_))
 dsimp only
 rw [byScan_of rfl d.bd d.el,if_pos rfl]
 unfold setAddByScan
 refine wpAny_bind (wpAny_bind (wpAny_rule (wpAny_bind (wpAny_setScan_of hk ho rfl d.fits d.el ?_))))
 cases hq:es.toList.findIdx? (fun e=>(bv prog w).is x e.2) with
 | some j=>
  obtain ⟨hj,hp,_⟩:=cG.mp hq
  have hx:x∈ks:=d.mem.mpr ⟨_,cA hj,hp⟩
  have q:=h s.heap false (Heap.SameBut.refl a s.heap) ⟨es,ep,t,ho,by rw [show jU ks x=ks from if_pos hx]; exact d⟩
  dsimp only
  exact wpAny_pure (wpAny_pure q)
 | none=>
  have hx:x∉ks:=fun z=>by
   obtain ⟨e,he,q⟩:=d.mem.mp z
   have:=dF.mp hq e he
   rw [q] at this
   cases this
  dsimp only
  have hp:=layNew_perm t es ((bv prog w).hash x) (.str x tk)
  have hf:=layNew_fits t es ((bv prog w).hash x) (.str x tk)
  have hl:=qbR t es ((bv prog w).hash x) (.str x tk)
  have hn:=fun e=>YN (t:=t) es ((bv prog w).hash x) (.str x tk) e
  generalize layNew t es ((bv prog w).hash x) (.str x tk)=L at hp hf hl hn ⊢
  obtain ⟨es1,t1,wd,gv⟩:=L
  dsimp only at hp hf hl hn ⊢
  rw [eX] at hp
  have tail:∀ t2:SetTable,t2.fits es1.size=true->t2.led=t.led->t2.plain=false->wpAny (model prog w) A (do
    storeSet a es1 t2
    if (!wd&&t2.tooFull)=true then do
      (match (relayAll t2 es1 (bI es1.size)).2.2 with | true=>rule "set.scan.the-table-gave-way" | false=>pure ())
      storeSet a (relayAll t2 es1 (bI es1.size)).1 (relayAll t2 es1 (bI es1.size)).2.1
      pure (some true)
     else pure (some true)) (fun r s'=>∃ h',s'={ s with heap:=h' }/\r=some true/\bA a s.heap h'/\SetS prog w h' a (jU ks x)) E s:=by
   intro t2 f2 l2 p2
   have d2:=d.more hx hr hp f2 l2 p2
   refine wpAny_bind (wpAny_storeSet_of ho rfl ?_ (fits_of_scanBound d2.bd))
   have ho1:=Wn (es':=es1) (t':=t2) ho
   have sb:=bb s.heap a (eT es1 t2)
   split
   ·have rp:=relayAll_perm t2 es1 (bI es1.size)
    have rf:=relayAll_fits t2 es1 (bI es1.size)
    have rk:=KG t2 es1 (bI es1.size)
    generalize relayAll t2 es1 (bI es1.size)=R at rp rf rk ⊢
    obtain ⟨es2,t3,g2⟩:=R
    dsimp only at rp rf rk ⊢
    have d3:=d.more hx hr (rp.trans hp) rf (rk.1.trans l2) (rk.2 p2)
    refine wpAny_bind ?_
    have go:wpAny (model prog w) A (storeSet a es2 t3 >>= fun _=>pure (some true)) (fun r s'=>∃ h',s'={ s with heap:=h' }/\r=some true/\bA a s.heap h'/\SetS prog w h' a (jU ks x)) E { s with heap:=s.heap.update a (eT es1 t2) }:=
     wpAny_bind (wpAny_storeSet_of ho1 rfl (wpAny_pure ⟨_,rfl,rfl,sb.trans (bb _ a _),es2,_,t3,Wn ho1,d3⟩) (fits_of_scanBound d3.bd))
    cases g2
    ·exact wpAny_pure go
    ·exact wpAny_rule go
   ·exact wpAny_pure ⟨_,rfl,rfl,sb,es1,_,t2,ho1,d2⟩
  have fin:∀ (r:Option Bool) (s':Shared),(∃ h',s'={ s with heap:=h' }/\r=some true/\bA a s.heap h'/\SetS prog w h' a (jU ks x)) ->
    wpAny (model prog w) A (match r with | some added=>pure added | none=>setAddHashedIn a (.str x tk) ((bv prog w).hash x) 99999) Q E s':=by
   rintro r s' ⟨h',rfl,rfl,sb,hS⟩
   exact wpAny_pure (h h' true sb hS)
  have gw:∀ (b:Bool) {s₁:Shared} {Q':Unit->Shared->Prop},Q' () s₁->wpAny (model prog w) A (match b with | true=>rule "set.scan.the-table-gave-way" | false=>pure ()) Q' E s₁:=fun b s₁ Q' q=>by
   cases b
   ·exact wpAny_pure q
   ·exact wpAny_rule q
  refine wpAny_bind (gw _ ?_)
  cases e1:t1.plain with
  | true=>
   rw [if_pos rfl,hashByValue_scannable 8 (x:=.str x tk) rfl]
   refine wpAny_bind (wpAny_pure ?_)
   show wpAny _ _ (storeSet a es1 { t1 with plain:=false } >>= _) _ _ _
   exact wpAny_mono (tail { t1 with plain:=false } (SetTable.fits_plain_off hf) hl rfl) fin fun _ _ z=>z
  | false=>
   rw [if_neg (by simp)]
   refine wpAny_bind (wpAny_pure ?_)
   show wpAny _ _ (storeSet a es1 t1 >>= _) _ _ _
   exact wpAny_mono (tail t1 hf hl e1) fin fun _ _ z=>z
end
theorem Gs (ks:List Str) (x:Str):(jU ks x).length<=ks.length+1:=by
 unfold jU
 split
 ·omega
 ·rw [am]
  exact ax _
theorem vM:∀ (l ks:List Str),(l.foldl jU ks).length<=ks.length+l.length
 | [],ks=>ax _
 | x::l,ks=>by
  have h1:=vM l (jU ks x)
  have h2:=Gs ks x
  rw [bO,ae]
  omega
variable {h':Heap}
theorem SetS.at (hS:SetS prog w h a ks) (k:∀ o,h.get? a=some o->h'.get? a=some o):SetS prog w h' a ks:=
 let ⟨es,ep,t,ho,d⟩:=hS; ⟨es,ep,t,k _ ho,d⟩
variable {n:Nat}
section
variable {R:Result->Shared->Prop} {I:Addr} {fp wr:List Addr} {P:Nat->Value->Prop} {St:Nat->Shared->Prop}
theorem Wo {G:Array GenState->Array GenState->Prop} (W:WalksS prog w A.in1 I fp wr G n P St) (S:Addr) (hSf:S∉fp) (ss:List Str) (hn:ss.length=n) (hv:∀ i v,P i v->∃ x t,ss[i]?=some x/\v=.str x t) (hb:n+1 < scanBound) :
  ∀ (k i:Nat) (s:Shared),n - i=k->i<=n->St i s->SetS prog w s.heap S ((ss.take i).foldl jU []) ->
   (∀ s',Moved (S::wr) G s s'->SetS prog w s'.heap S (ss.foldl jU [])->R (.ok (.ret .none)) s')->codeAny (model prog w) A (.builtin "set.update.loop" ⟨[.ref S,.ref I],[]⟩) R s:=by
 have nw:S∉wr:=fun h=>hSf (W.sub _ h)
 have up:∀ b∈wr,b∈S::wr:=fun b hb=>af _ hb
 intro k
 induction k with
 | zero=>
  intro i s hk hi hst hS hR
  have hin:i=n:=by omega
  subst hin
  refine codeAny_builtin cU ?_
  rw [bE bZ _]; show wpAny _ A.in1 (pyNext (.ref I) >>= _) _ _ s
  refine wpAny_bind (W.done s _ _ hst fun s' hm=>wpAny_pure (hR s' (hm.mono up) ?_))
  rw [List.take_of_length_le (dY hn)] at hS
  exact hS.at fun o e=>hm.heap S o nw e
 | succ k ih=>
  intro i s hk hi hst hS hR
  have hlt:i < n:=by omega
  refine codeAny_builtin cU ?_
  rw [bE bZ _]; show wpAny _ A.in1 (pyNext (.ref I) >>= _) _ _ s
  refine wpAny_bind (W.item i s _ _ hlt hst fun v s' hP hst' hm=>?_)
  obtain ⟨x,t,hx,rfl⟩:=hv i v hP
  have hS':SetS prog w s'.heap S ((ss.take i).foldl jU []):=hS.at fun o e=>hm.heap S o nw e
  show wpAny _ A.in1 (holding [e9 x t] (setAdd S (.str x t)) >>= _) _ _ s'
  refine wpAny_bind (wpAny_holding ?_)
  unfold setAdd
  refine wpAny_holding (wpAny_bind ((bv prog w).pyHash (k:=x) (by rw [isS]; exact decide_eq_true rfl) ?_))
  have hroom:((ss.take i).foldl jU []).length+1 < scanBound:=by
   have h1:=vM (ss.take i) []
   rw [dA,aq] at h1
   omega
  refine qbT (s:={ s' with toks:=s'.toks+1 }) hS' hroom fun h' b sb hS2=>?_
  have e2:jU ((ss.take i).foldl jU []) x=(ss.take (i+1)).foldl jU []:=by
   rw [eY,hx,List.foldl_append]
   rfl
  rw [e2] at hS2
  refine wpAny_pure ⟨plainId_quiet bZ _,ih (i+1) _ (by omega) hlt (W.frame _ s' _ _ hst' (eV _) fun b hb o e=>?_) hS2 fun s'' hm'' hS''=>?_⟩
  ·rw [sb.2 b fun z:b=S=>hSf (z ▸ hb)]
   exact e
  ·refine hR s'' (Moved.trans W.gtrans ((hm.mono up).then_heap (eV _) fun b o hb e=>?_) hm'') hS''
   rw [sb.2 b fun z:b=S=>hb (z ▸ aw)]
   exact e
end
variable {ss:List Str} {i:Nat}
section
abbrev Gt (w:World):Obj:=jC #[] 0 (.fresh 0 0 (!(w.params.followText "set-order")))
theorem Js (e:h.get? a=some (Gt w)):SetS prog w h a []:=
 ⟨_,_,_,e,⟨fun e he=>by simp at he,by simp,bJ,by decide,by rfl,rfl,fun z=>absurd rfl z⟩⟩
theorem YQ (a:Value) {Q₁:Value->Shared->Prop} (h:Q₁ (.ref s.heap.objs.size) { s with heap:=s.heap.push (Gt w) }) :
  codeAny (model prog w) A (.call (.builtin "set.__new__") ⟨[.type "set",a],[]⟩) (wants Q₁ E) s:=by
 refine codeAny_of_tree ?_; show wpAny _ A.in1 (do checkBuiltinCall "set.__new__" ⟨[.type "set",a],[]⟩; again (.builtin "set.__new__" ⟨[.type "set",a],[]⟩)) _ _ s
 refine wpAny_bind (wpAny_of_eq (PySem.F.newCall_set_1 a) (wpAny_pure ⟨plainId_quiet PySem.F.plain_set_new _,codeAny_builtin PySem.F.entry_set_new ?_⟩)); rw [bE PySem.F.plain_set_new _]
 unfold Builtin.«set.__new__» Builtin.Frozenset.newClass; have hsub:=sub_set_self; obtain ⟨hp,g,d,tk,os⟩:=s; dsimp only; wp_walk
 refine wpAny_askSetting (wpAny_pure ?_); dsimp only; simp only [newObj]
 exact wpAny_bind (wpAny_alloc (wpAny_pure (wpAny_pure h)))
theorem xV:isSubtype (.type "tuple") (.type "set")=pure false:=by rw [isSubtype_type]; kernel_rfl
theorem ur:isSubtype (.type "tuple") (.type "frozenset")=pure false:=by rw [isSubtype_type]; kernel_rfl
theorem YR {vs:List Value} (h:StrsAre vs ss) {v:Value} (e:vs[i]?=some v):∃ x t,ss[i]?=some x/\v=.str x t:=by
 obtain ⟨y,t,e1,e2⟩:=h.item i v e
 exact ⟨y,t,e2,e1⟩
theorem Gu {S l:Addr} {Q:Unit->Shared->Prop} (hh:A.handled=none) (hS:SetS prog w s.heap S []) (hl:s.heap.IsList l items) (hi:StrsAre items.toList ss) (hb:items.size+1 < scanBound) (hne:l≠S)
  (h:∀ h' tk,SetS prog w h' S (ss.foldl jU [])->(∀ b o,b≠S->s.heap.get? b=some o->h'.get? b=some o)->Q () { s with heap:=h',toks:=tk }) :
  wpAny (model prog w) A (aL "set.__init__" S (.ref l)) Q E s:=by
 have hT:s.TypeIs (.ref l) "list":=let ⟨o,e,c,_⟩:=hl; ⟨o,e,c⟩
 unfold aL
 refine wpAny_bind (m:=be _) ?_
 unfold be
 refine wpAny_bind (wpAny_isInstance hT PySem.F.sub_list_set ?_)
 refine wpAny_isInstance hT PySem.F.sub_list_frozenset ?_
 rw [if_neg (by decide)]
 refine wpAny_bind (wpAny_typeOf hT ?_)
 rw [if_neg (by decide)]
 refine wpAny_bind (wpAny_pyIter_list hl ?_)
 have hz:s.heap.objs.size≠S:=fun z=>by
  obtain ⟨es,ep,t,ho,_⟩:=hS
  exact bu _ (z ▸ ap ho)
 have hzl:l≠s.heap.objs.size:=by
  obtain ⟨o,e,_⟩:=hl
  exact ay (ap e)
 refine wpAny_bind (wpAny_runValue (Wo ((fN (A:=A.in1) hh _ l hzl items).toS) S ?_ ss (by rw [<-hi.length]; simp) (fun i v e=>YR hi (by rw [bx]; exact e)) hb items.size 0 _ (by omega) (bt _) ⟨⟨_,ag _ rfl,rfl,rfl⟩,hl.push _⟩ ?_ ?_))
 ·intro z
  rcases ac.mp z with z | z
  ·exact hz z.symm
  ·exact hne (aC.mp z).symm
 ·exact hS.at fun o e=>aa _ e
 ·intro s' hm hS'
  obtain ⟨h',g',d',tk',os'⟩:=s'
  have eg:g'=s.gens:=hm.gens
  have ed:d'=s.drawn:=hm.drawn
  have eo:os'=s.os:=hm.os
  subst eg ed eo
  refine wpAny_pure (h h' tk' hS' fun b o hb e=>hm.heap b o ?_ (aa _ e))
  intro z
  rcases ac.mp z with z | z
  ·exact hb z
  ·rw [aC.mp z] at e
   exact bu _ (ap e)
theorem YS {S l:Addr} {Q:Unit->Shared->Prop} (hh:A.handled=none) (hS:SetS prog w s.heap S []) (hl:s.heap.IsTuple l items) (hi:StrsAre items.toList ss) (hb:items.size+1 < scanBound) (hne:l≠S)
  (h:∀ h' tk,SetS prog w h' S (ss.foldl jU [])->(∀ b o,b≠S->s.heap.get? b=some o->h'.get? b=some o)->Q () { s with heap:=h',toks:=tk }) :
  wpAny (model prog w) A (aL "set.__init__" S (.ref l)) Q E s:=by
 have hT:s.TypeIs (.ref l) "tuple":=let ⟨o,e,c,_⟩:=hl; ⟨o,e,c⟩
 unfold aL
 refine wpAny_bind (m:=be _) ?_
 unfold be
 refine wpAny_bind (wpAny_isInstance hT xV ?_)
 refine wpAny_isInstance hT ur ?_
 rw [if_neg (by decide)]
 refine wpAny_bind (wpAny_typeOf hT ?_)
 rw [if_neg (by decide)]
 refine wpAny_bind (wpAny_pyIter_tuple hl ?_)
 have hz:s.heap.objs.size≠S:=fun z=>by
  obtain ⟨es,ep,t,ho,_⟩:=hS
  exact bu _ (z ▸ ap ho)
 have hzl:l≠s.heap.objs.size:=by
  obtain ⟨o,e,_⟩:=hl
  exact ay (ap e)
 refine wpAny_bind (wpAny_runValue (Wo ((fK (A:=A.in1) hh _ l hzl items).toS) S ?_ ss (by rw [<-hi.length]; simp) (fun i v e=>YR hi (by rw [bx]; exact e)) hb items.size 0 _ (by omega) (bt _) ⟨⟨_,ag _ rfl,rfl,rfl⟩,?_⟩ ?_ ?_))
 ·intro z
  rcases ac.mp z with z | z
  ·exact hz z.symm
  ·exact hne (aC.mp z).symm
 ·obtain ⟨o,e,c⟩:=hl
  exact ⟨o,aa _ e,c⟩
 ·exact hS.at fun o e=>aa _ e
 ·intro s' hm hS'
  obtain ⟨h',g',d',tk',os'⟩:=s'
  have eg:g'=s.gens:=hm.gens
  have ed:d'=s.drawn:=hm.drawn
  have eo:os'=s.os:=hm.os
  subst eg ed eo
  refine wpAny_pure (h h' tk' hS' fun b o hb e=>hm.heap b o ?_ (aa _ e))
  intro z
  rcases ac.mp z with z | z
  ·exact hb z
  ·rw [aC.mp z] at e
   exact bu _ (ap e)
set_option maxHeartbeats 3200000 in
theorem Jt {l:Addr} {ks:List Str} {Q:Value->Shared->Prop}
  (hup:∀ (A1:Around) (Q1:Unit->Shared->Prop) (E1:Value->Shared->Prop),A1.handled=A.handled->(∀ h' tk,SetS prog w h' s.heap.objs.size ks->(∀ b o,s.heap.get? b=some o->h'.get? b=some o)->Q1 () { s with heap:=h',toks:=tk }) ->
   wpAny (model prog w) A1 (aL "set.__init__" s.heap.objs.size (.ref l)) Q1 E1 { s with heap:=s.heap.push (Gt w) })
  (h:∀ h' tk,SetS prog w h' s.heap.objs.size ks->(∀ b o,s.heap.get? b=some o->h'.get? b=some o)->Q (.ref s.heap.objs.size) { s with heap:=h',toks:=tk }) :
  wpAny (model prog w) A (call (.type "set") [.ref l]) Q E s:=by
 have hnew:∀ {Q₁:Value->Shared->Prop},Q₁ (.ref s.heap.objs.size) { s with heap:=s.heap.push (Gt w) }->codeAny (model prog w) A.in1 (.call (.builtin "set.__new__") ⟨[.type "set",.ref l],[]⟩) (wants Q₁ E) s:=fun h=>YQ (.ref l) h
 unfold Gt jC at hnew hup
 generalize (!(w.params.followText "set-order"))=led at hnew hup
 obtain ⟨c,tl,hmro⟩:=aQ.mro
 have hmade:=aQ.made
 have hsub:=aQ.sub
 refine wpAny_call (codeAny_of_tree ?_); show wpAny _ _ (callAny (.type "set") _) _ _ _
 refine wpAny_pure ⟨Code.quiet_builtin _ (by decide +kernel),codeAny_builtin PySem.F.entry_type_call ?_⟩; rw [Around.under_plain (weight_type_call_type "set" [.ref l] []) rfl]
 have h1:=aQ.notType
 have h2:=aQ.canCreate
 have hct:=PySem.F.typeCall_set_1 (.ref l)
 repeat (any_goals (first | assumption | wp_step))
 refine codeAny_mono (hnew (Q₁:=fun obj s₁=>obj=.ref s.heap.objs.size/\s₁={ s with heap:=s.heap.push { cls:=.type "set",dict:=none,data:=.set #[] 0 (.fresh 0 0 led) } }) ⟨rfl,rfl⟩) fun r s₁ hr=>?_
 cases r with
 | error e=>exact hr
 | ok fl=>
  cases fl with
  | ret obj=>
   obtain ⟨rfl,rfl⟩:=hr
   have hS:(s.heap.push { cls:=.type "set",dict:=none,data:=.set #[] 0 (.fresh 0 0 led) }).get? s.heap.objs.size=some { cls:=.type "set",dict:=none,data:=.set #[] 0 (.fresh 0 0 led) }:=ag _ rfl
   have hT:eF { s with heap:=s.heap.push { cls:=.type "set",dict:=none,data:=.set #[] 0 (.fresh 0 0 led) } } (.ref s.heap.objs.size) "set":=⟨_,hS,rfl⟩
   have hli:=aQ.init.lookup
   have hbi:=aQ.init.bind (.ref s.heap.objs.size)
   repeat (any_goals (first | assumption | wp_step))
   refine codeAny_mono (codeAny_call_builtin (R:=wants (fun r s₂=>r=.none/\∃ h' tk,s₂={ s with heap:=h',toks:=tk }/\SetS prog w h' s.heap.objs.size ks/\(∀ b o,s.heap.get? b=some o->h'.get? b=some o)) E) aQ.init.plain PySem.F.entry_set_init (check_set_init_1 hT ?_)) fun r₂ s₂ hr₂=>?_
   ·unfold Builtin.«set.__init__» noKeywords
    generalize hU:aL=U
    wp_walk
    subst hU
    refine hup _ _ _ rfl fun h' tk hS' hk=>?_
    exact wpAny_pure ⟨rfl,h',tk,rfl,hS',hk⟩
   ·cases r₂ with
    | error e=>exact hr₂
    | ok fl₂=>
     cases fl₂ with
     | ret r=>
      obtain ⟨rfl,h',tk,rfl,hS',hk'⟩:=hr₂
      repeat (any_goals (first | assumption | wp_step))
      exact h _ _ hS' hk'
     | _=>exact hr₂.elim
  | _=>exact hr.elim
end
theorem yo {α:Type}:∀ {xs:List α} {i:Nat} (h:i < xs.length),(xs[i]::xs.eraseIdx i).Perm xs
 | [],_,h=>absurd h (Nat.not_lt_zero _)
 | x::xs,0,h=>cq _
 | x::xs,i+1,h=>(List.Perm.swap _ _ _).trans ((yo (xs:=xs) (i:=i) (Nat.lt_of_succ_lt_succ h)).cons x)
variable {M:Model}
theorem Ui {src:Source} {Q:Nat->Shared->Prop} (hn:n≠0) (h:∀ i d',i < n->Q i { s with drawn:=d' }):wpAny M A (choose src n) Q E s:=
 fun _ _ _=>⟨hn,h _ _ (Nat.mod_lt _ (Nat.pos_of_ne_zero hn))⟩
variable {α:Type}
theorem YT:∀ (n:Nat) (xs:List α) (s:Shared) {Q:List α->Shared->Prop},n=xs.length->(∀ ys d',ys.Perm xs->Q ys { s with drawn:=d' })->wpAny M A (drawOrder n xs) Q E s
 | 0,xs,s,Q,hn,h=>by
  cases xs with
  | nil=>exact wpAny_pure (h [] s.drawn (cq _))
  | cons x l=>cases hn
 | n+1,[],s,Q,hn,h=>by cases hn
 | n+1,x::l,s,Q,hn,h=>by
  show wpAny M A (choose .order (x::l).length >>= _) Q E s
  refine wpAny_bind (Ui (by simp) fun i d' hi=>?_)
  have e:(x::l)[i]?=some (x::l)[i]:=aJ hi
  rw [e]
  refine wpAny_bind (YT n _ _ (by rw [List.length_eraseIdx_of_lt hi]; simp only [ae] at hn ⊢; omega) fun ys d2 hp=>wpAny_pure (h _ d2 ?_))
  exact (hp.cons _).trans (yo hi)
theorem YU (next:Nat->Nat):∀ (f k:Nat) (left:List α) (out:Array α),f=left.length->(pickOrder.go next f k left out).toList.Perm (out.toList++left)
 | 0,k,left,out,hf=>by
  cases left with
  | nil=>
   rw [bi]
   exact cq _
  | cons x l=>cases hf
 | f+1,k,left,out,hf=>by
  have hlt:next k % left.length < left.length:=Nat.mod_lt _ (by omega)
  have e:left[next k % left.length]?=some left[next k % left.length]:=aJ hlt
  unfold pickOrder.go
  rw [e]
  refine (YU next f (k+1) _ _ (by rw [List.length_eraseIdx_of_lt hlt]; omega)).trans ?_
  rw [eX,dh]
  exact List.Perm.append_left _ (yo hlt)
theorem xW (next:Nat->Nat) (xs:Array α):(pickOrder next xs).toList.Perm xs.toList:=by
 unfold pickOrder
 exact YU next _ _ _ _ (by simp)
noncomputable def wE (first:Value) (i:Nat) (a:Addr) (n ep:Nat):Obj:={ cls:=.type "set_iterator",data:=.fields #[first,rawInt i,.ref a,rawInt n,rawInt ep] }
theorem slot_si_next:Slot "set_iterator" "__next__" "set_iterator.__next__":=
 .of (owner := "set_iterator") (n := "__next__") (by rw [typeLookup_type,builtinLookup_eq_fast]; kernel_rfl) (by decide +kernel) (by decide +kernel) (by decide +kernel) (by first | exact .inl (by decide +kernel) | exact .inr (by decide +kernel)) (by rw [isSubtype_type]; kernel_rfl)
theorem yO:Slot "set_iterator" "__iter__" "set_iterator.__iter__":=
 .of (owner := "set_iterator") (n := "__iter__") (by rw [typeLookup_type,builtinLookup_eq_fast]; kernel_rfl) (by decide +kernel) (by decide +kernel) (by decide +kernel) (by first | exact .inl (by decide +kernel) | exact .inr (by decide +kernel)) (by rw [isSubtype_type]; kernel_rfl)
theorem vo (a:Value):argsOk "set_iterator.__next__" ⟨[a],[]⟩:=by unfold argsOk; kernel_rfl
theorem Ju (a:Value):argsOk "set_iterator.__iter__" ⟨[a],[]⟩:=by unfold argsOk; kernel_rfl
theorem kI:entryFor table "set_iterator.__next__"=some Builtin.«set_iterator.__next__»:=entryFor_of_tree (by kernel_rfl)
theorem gT:entryFor table "set_iterator.__iter__"=some Builtin.«dict_keyiterator.__iter__»:=entryFor_alias (id' := "dict_keyiterator.__iter__") (by kernel_rfl) rfl (by decide +kernel) (by kernel_rfl)
theorem Jv:entryFor table "set.__iter__"=some Builtin.«frozenset.__iter__»:=entryFor_alias (id' := "frozenset.__iter__") (by kernel_rfl) rfl (by decide +kernel) (by kernel_rfl)
variable {p:Addr} {Q:Value->Shared->Prop} {b:Bool} {ps:List Nat}
section
theorem kX (hb:w.params.followText "set-order"=b):({ program:=(model prog w).prog,params:=(model prog w).w.params }:Setting).params.followText "set-order"=b:=hb
theorem Jw {sl nx:Nat} {t:SetTable} {x:Value} {Q:Option Value->Shared->Prop} (hi:s.heap.get? it=some (wE (rawInt sl) i a n ep)) (ha:s.heap.get? a=some (jC es ep t)) (hf:t.fits es.size=true) (hz:es.size=n)
  (hn:∀ (A1:Around) (Q1:Option (Value×Nat)->Shared->Prop) (E1:Value->Shared->Prop),Q1 (some (x,nx)) s->wpAny (model prog w) A1 (setNext a sl i ep) Q1 E1 s)
  (hQ:∀ h',h'.get? it=some (wE (rawInt nx) (i+1) a n ep)->bA it s.heap h'->Q (some x) { s with heap:=h' }):wpAny (model prog w) A (pyNext (.ref it)) Q E s:=by
 have hT:s.TypeIs (.ref it) "set_iterator":=⟨_,hi,rfl⟩
 unfold pyNext
 refine wpAny_bind (wpAny_attempt (wpAny_callSpecial?_slot (name:=ao "__next__") hT slot_si_next (wpAny_call_entry slot_si_next hT kI ?_ (vo _))))
 show wpAny _ _ (fieldsOf (.ref it) >>= _) _ _ s
 refine wpAny_bind (wpAny_fieldsOf hi rfl ?_)
 show wpAny _ _ (setEntries a >>= _) _ _ s
 refine wpAny_bind (wpAny_setEntries_of ha rfl hf ?_)
 rw [if_neg (by rw [hz]; simp)]
 show wpAny _ _ (setNext a sl i ep >>= _) _ _ s
 refine wpAny_bind (hn _ _ _ ?_)
 show wpAny _ _ (setField (.ref it) 0 (rawInt nx) >>= _) _ _ s
 refine wpAny_bind (wpAny_setField hi rfl (by simp) ?_)
 have h1:(s.heap.update it (Obj.mapFields (·.setIfInBounds 0 (rawInt nx)))).get? it=some (wE (rawInt nx) i a n ep):=bw _ hi rfl
 refine wpAny_bind (wpAny_setField h1 rfl (by simp) (wpAny_pure ⟨x,rfl,wpAny_pure (hQ _ ?_ ((bb ..).trans (bb ..)))⟩))
 exact bw _ h1 rfl
theorem Jx {sl:Nat} {t:SetTable} {Q:Option Value->Shared->Prop} (hh:A.handled=none) (hi:s.heap.get? it=some (wE (rawInt sl) i a n ep)) (ha:s.heap.get? a=some (jC es ep t)) (hf:t.fits es.size=true) (hz:es.size=n)
  (hn:∀ (A1:Around) (Q1:Option (Value×Nat)->Shared->Prop) (E1:Value->Shared->Prop),Q1 none s->wpAny (model prog w) A1 (setNext a sl i ep) Q1 E1 s)
  (hQ:∀ h',fL it s.heap h'->Q none { s with heap:=h' }):wpAny (model prog w) A (pyNext (.ref it)) Q E s:=by
 have hT:s.TypeIs (.ref it) "set_iterator":=⟨_,hi,rfl⟩
 unfold pyNext
 refine wpAny_bind (wpAny_attempt (wpAny_callSpecial?_slot (name:=ao "__next__") hT slot_si_next (wpAny_call_entry slot_si_next hT kI ?_ (vo _))))
 show wpAny _ _ (fieldsOf (.ref it) >>= _) _ _ s
 refine wpAny_bind (wpAny_fieldsOf hi rfl ?_)
 show wpAny _ _ (setEntries a >>= _) _ _ s
 refine wpAny_bind (wpAny_setEntries_of ha rfl hf ?_)
 rw [if_neg (by rw [hz]; simp)]
 show wpAny _ _ (setNext a sl i ep >>= _) _ _ s
 refine wpAny_bind (hn _ _ _ ?_)
 show wpAny _ _ (setField (.ref it) 2 ck >>= _) _ _ s
 refine wpAny_bind (wpAny_setField hi rfl (by simp) ?_); show wpAny _ _ (newExc (.type "StopIteration") [] >>= _) _ _ _
 refine wpAny_bind ?_; simp only [newExc,newTuple]; refine wpAny_bind (wpAny_newObj_type ?_ (by size_fits))
 refine wpAny_bind (m:=firstArgMember _ _) (wpAny_of_eq (a:=ck) (by first | rfl | (simp only [firstArgMember]; rfl)) ?_); refine wpAny_newObj_type ?_ (by size_fits); simp only [raiseNew]
 refine wpAny_bind (wpAny_handled ?_); first | rw [show A.in1.handled=none from hh] | rw [hh]
 refine wpAny_bind (wpAny_pure (wpAny_throw ?_)); refine wpAny_bind (wpAny_isInstance (T := "StopIteration") (b:=true) ⟨_,ag _ rfl,rfl⟩ isSubtype_stop ?_)
 exact wpAny_pure (hQ _ (((bb ..).extBut.push _).push _))
theorem Uj {pl m:Nat} {t:SetTable} {hx:Int} {x:Value} {ps:Array Value} {Q:Option Value->Shared->Prop} (hi:s.heap.get? it=some (wE (.ref p) i a n ep)) (ha:s.heap.get? a=some (jC es ep t)) (hf:t.fits es.size=true) (hz:es.size=n)
  (hp:s.heap.get? p=some { cls:=.type "tuple",data:=.seq ps m }) (hpl:ps[i]?=some (rawInt pl)) (hx:es[pl]?=some (hx,x))
  (hQ:∀ h',h'.get? it=some (wE (.ref p) (i+1) a n ep)->bA it s.heap h'->Q (some x) { s with heap:=h' }):wpAny (model prog w) A (pyNext (.ref it)) Q E s:=by
 have hT:s.TypeIs (.ref it) "set_iterator":=⟨_,hi,rfl⟩
 unfold pyNext
 refine wpAny_bind (wpAny_attempt (wpAny_callSpecial?_slot (name:=ao "__next__") hT slot_si_next (wpAny_call_entry slot_si_next hT kI ?_ (vo _))))
 show wpAny _ _ (fieldsOf (.ref it) >>= _) _ _ s
 refine wpAny_bind (wpAny_fieldsOf hi rfl ?_)
 show wpAny _ _ (setEntries a >>= _) _ _ s
 refine wpAny_bind (wpAny_setEntries_of ha rfl hf ?_)
 rw [if_neg (by rw [hz]; simp)]
 show wpAny _ _ (seqItems? (.ref p) >>= _) _ _ s
 refine wpAny_bind (wpAny_seqItems hp rfl ?_)
 dsimp only
 rw [show ps[Int.toNat (i:Int)]?=some (rawInt pl) from hpl]
 show wpAny _ _ (setNextDrawn a pl ep >>= _) _ _ s
 refine wpAny_bind ?_
 unfold setNextDrawn
 refine wpAny_bind (wpAny_setState_of ha rfl hf ?_)
 dsimp only
 rw [if_neg (by simp),hx]
 refine wpAny_pure ?_
 show wpAny _ _ (setField (.ref it) 1 (rawInt (i+1)) >>= _) _ _ s
 refine wpAny_bind (wpAny_setField hi rfl (by simp) (wpAny_pure ⟨x,rfl,wpAny_pure (hQ _ ?_ (bb ..))⟩))
 exact bw _ hi rfl
theorem YV {m:Nat} {t:SetTable} {ps:Array Value} {Q:Option Value->Shared->Prop} (hh:A.handled=none) (hi:s.heap.get? it=some (wE (.ref p) i a n ep)) (ha:s.heap.get? a=some (jC es ep t)) (hf:t.fits es.size=true) (hz:es.size=n)
  (hp:s.heap.get? p=some { cls:=.type "tuple",data:=.seq ps m }) (hpl:ps[i]?=none)
  (hQ:∀ h',fL it s.heap h'->Q none { s with heap:=h' }):wpAny (model prog w) A (pyNext (.ref it)) Q E s:=by
 have hT:s.TypeIs (.ref it) "set_iterator":=⟨_,hi,rfl⟩
 unfold pyNext
 refine wpAny_bind (wpAny_attempt (wpAny_callSpecial?_slot (name:=ao "__next__") hT slot_si_next (wpAny_call_entry slot_si_next hT kI ?_ (vo _))))
 show wpAny _ _ (fieldsOf (.ref it) >>= _) _ _ s
 refine wpAny_bind (wpAny_fieldsOf hi rfl ?_)
 show wpAny _ _ (setEntries a >>= _) _ _ s
 refine wpAny_bind (wpAny_setEntries_of ha rfl hf ?_)
 rw [if_neg (by rw [hz]; simp)]
 show wpAny _ _ (seqItems? (.ref p) >>= _) _ _ s
 refine wpAny_bind (wpAny_seqItems hp rfl ?_)
 dsimp only
 rw [show ps[Int.toNat (i:Int)]?=none from hpl]
 show wpAny _ _ (setField (.ref it) 0 (rawInt 0) >>= _) _ _ s
 refine wpAny_bind (wpAny_setField hi rfl (by simp) ?_)
 have h1:(s.heap.update it (Obj.mapFields (·.setIfInBounds 0 (rawInt 0)))).get? it=some (wE (rawInt 0) i a n ep):=bw _ hi rfl
 refine wpAny_bind (wpAny_setField h1 rfl (by simp) ?_); show wpAny _ _ (newExc (.type "StopIteration") [] >>= _) _ _ _
 refine wpAny_bind ?_; simp only [newExc,newTuple]; refine wpAny_bind (wpAny_newObj_type ?_ (by size_fits))
 refine wpAny_bind (m:=firstArgMember _ _) (wpAny_of_eq (a:=ck) (by first | rfl | (simp only [firstArgMember]; rfl)) ?_); refine wpAny_newObj_type ?_ (by size_fits); simp only [raiseNew]
 refine wpAny_bind (wpAny_handled ?_); first | rw [show A.in1.handled=none from hh] | rw [hh]
 refine wpAny_bind (wpAny_pure (wpAny_throw ?_)); refine wpAny_bind (wpAny_isInstance (T := "StopIteration") (b:=true) ⟨_,ag _ rfl,rfl⟩ isSubtype_stop ?_)
 exact wpAny_pure (hQ _ (((((bb ..).trans (bb ..))).extBut.push _).push _))
theorem xX {o:Obj} (hi:s.heap.get? it=some o) (hc:o.cls=.type "set_iterator") (h:Q (.ref it) s):wpAny (model prog w) A (pyIter (.ref it)) Q E s:=by
 have hT:s.TypeIs (.ref it) "set_iterator":=⟨_,hi,hc⟩
 refine wpAny_pyIter_slot hT yO (wpAny_call_entry yO hT gT ?_ (Ju _)); show wpAny _ _ (ret (.ref it)) _ _ s
 exact wpAny_pure ⟨_,rfl, "set_iterator",_,hT,slot_si_next.lookup,h⟩
theorem YW {ep:Nat} {t:SetTable} (hh:A.handled=none) (hb:w.params.followText "set-order"=true) (hf:t.fits es.size=true) (hne:a≠it) :
  Walks prog w A it [it,a] [it] es.size (fun i v=>((pickOrder (w.params.setOrder a ep) es).toList.map (·.2))[i]?=some v) (fun i h=>h.get? it=some (wE (rawInt 0) i a es.size ep)/\h.get? a=some (jC es ep t)) where
 sub:=fun b hb=>by simp at hb; simp [hb]
 frame:=fun _ _ _ st hk=>⟨hk it (by simp) _ st.1,hk a (by simp) _ st.2⟩
 item:=fun i s Q E hi st hQ=>by
  have hlen:(pickOrder (w.params.setOrder a ep) es).size=es.size:=by
   have:=(xW (w.params.setOrder a ep) es).length_eq
   simpa using this
  have hlt:i < (pickOrder (w.params.setOrder a ep) es).size:=by omega
  obtain ⟨e,he⟩:∃ e,(pickOrder (w.params.setOrder a ep) es)[i]?=some e:=⟨_,bR hlt⟩
  refine Jw (x:=e.2) (nx:=0) st.1 st.2 hf rfl (fun A1 Q1 E1 q=>?_) fun h' hi' sb=>hQ e.2 h' s.toks ?_ ⟨hi',?_⟩ fun b o nb eo=>?_
  ·unfold setNext
   refine wpAny_bind (wpAny_setState_of st.2 rfl hf ?_)
   dsimp only
   refine wpAny_bind (m:=setsByText) (wpAny_bind (wpAny_askSetting (wpAny_pure ?_)))
   rw [kX hb,if_pos rfl,if_neg (by simp)]
   refine wpAny_bind ?_
   unfold setWalk
   refine wpAny_bind (wpAny_setState_of st.2 rfl hf ?_)
   dsimp only
   refine wpAny_bind (m:=setsByText) (wpAny_bind (wpAny_askSetting (wpAny_pure ?_)))
   rw [kX hb,if_pos rfl]
   refine wpAny_bind (wpAny_askSetting (wpAny_pure ?_))
   refine wpAny_pure ?_
   rw [show (pickOrder ((⟨(model prog w).prog,(model prog w).w.params⟩:Setting).params.setOrder a ep) es)[i]?=some e from he]
   exact q
  ·rw [aY,bx,he]
   rfl
  ·rw [sb.2 a hne]
   exact st.2
  ·rw [sb.2 b (fun z=>nb (by simp [z]))]
   exact eo
 done:=fun s Q E st hQ=>by
  have hlen:(pickOrder (w.params.setOrder a ep) es).size=es.size:=by
   have:=(xW (w.params.setOrder a ep) es).length_eq
   simpa using this
  refine Jx hh st.1 st.2 hf rfl (fun A1 Q1 E1 q=>?_) fun h' eb=>hQ h' s.toks fun b o nb eo=>eb b o (fun z=>nb (by simp [z])) eo
  unfold setNext
  refine wpAny_bind (wpAny_setState_of st.2 rfl hf ?_)
  dsimp only
  refine wpAny_bind (m:=setsByText) (wpAny_bind (wpAny_askSetting (wpAny_pure ?_)))
  rw [kX hb,if_pos rfl,if_neg (by simp)]
  refine wpAny_bind ?_
  unfold setWalk
  refine wpAny_bind (wpAny_setState_of st.2 rfl hf ?_)
  dsimp only
  refine wpAny_bind (m:=setsByText) (wpAny_bind (wpAny_askSetting (wpAny_pure ?_)))
  rw [kX hb,if_pos rfl]
  refine wpAny_bind (wpAny_askSetting (wpAny_pure ?_))
  refine wpAny_pure ?_
  rw [show (pickOrder ((⟨(model prog w).prog,(model prog w).w.params⟩:Setting).params.setOrder a ep) es)[es.size]?=none from cY (dY hlen)]
  exact q
 self:=fun i s Q E st hQ=>xX st.1 rfl hQ
noncomputable def uG (t:SetTable) (i:Nat):Nat:=if i=0 then 0 else t.place.getD 0 0+1
theorem Jy (j k:Nat):bD #[j] k=if j < k then 1 else 0:=by
 unfold bD
 show bD.go #[j] k 1 0 1=_
 unfold bD.go
 rw [if_pos (by omega)]
 show (if (#[j]:Array Nat).getD 0 k < k then bD.go #[j] k 0 1 1 else bD.go #[j] k 0 0 0)=_
 show (if j < k then bD.go #[j] k 0 1 1 else bD.go #[j] k 0 0 0)=_
 split <;> rfl
theorem Wp {t:SetTable} {Q:Option (Value×Nat)->Shared->Prop} (hb:w.params.followText "set-order"=false) (hf:t.fits es.size=true) (hl:t.led=true) (hz:es.size<=1) (ha:s.heap.get? a=some (jC es ep t)) (hi:i<=es.size)
  (q:Q (match es[i]? with | some e=>some (e.2,uG t (i+1)) | none=>none) s):wpAny (model prog w) A (setNext a (uG t i) i ep) Q E s:=by
 have hps:t.place.size=es.size:=by
  have:=hf
  simp only [SetTable.fits,aP,beq_iff_eq] at this
  exact this.1
 unfold setNext
 refine wpAny_bind (wpAny_setState_of ha rfl hf ?_)
 dsimp only
 refine wpAny_bind (m:=setsByText) (wpAny_bind (wpAny_askSetting (wpAny_pure ?_)))
 rw [kX hb,if_neg (by simp)]
 show wpAny _ _ (if (!t.plain&&decide (es.size > 1))=true then _ else _) _ _ _
 rw [if_neg (by simp; intro _; omega)]
 refine wpAny_bind ?_
 show wpAny _ _ (if (!t.led&&!es.isEmpty)=true then _ else _) _ _ _
 rw [hl,if_neg (by simp)]
 refine wpAny_pure (wpAny_pure ?_)
 have e:(match es[bD t.place (uG t i)]?,t.place[bD t.place (uG t i)]? with | some (_,x),some j=>some (x,j+1) | _,_=>none)=(match es[i]? with | some e=>some (e.2,uG t (i+1)) | none=>none:Option (Value×Nat)):=by
  obtain ⟨l⟩:=es
  obtain ⟨mask,⟨pl⟩,du,fi,le,mo,pn⟩:=t
  cases l with
  | nil=>simp
  | cons e0 l=>
   cases l with
   | cons _ _=>exact absurd hz (by simp)
   | nil=>
    cases pl with
    | nil=>exact absurd hps (by simp)
    | cons j pl=>
     cases pl with
     | cons _ _=>exact absurd hps (by simp)
     | nil=>
      have hi1:i=0\/i=1:=by simp at hi; omega
      rcases hi1 with rfl | rfl
      ·show (match (#[e0]:Array (Int×Value))[bD #[j] 0]?,(#[j]:Array Nat)[bD #[j] 0]? with | some (_,x),some j=>some (x,j+1) | _,_=>none)=some (e0.2,j+1)
       rw [Jy,if_neg (by omega)]
       rfl
      ·show (match (#[e0]:Array (Int×Value))[bD #[j] (j+1)]?,(#[j]:Array Nat)[bD #[j] (j+1)]? with | some (_,x),some j=>some (x,j+1) | _,_=>none)=none
       rw [Jy,if_pos (by omega)]
       rfl
 exact Eq.mp (congrArg (fun z=>Q z s) e.symm) q
theorem Gv {ep:Nat} {t:SetTable} (hh:A.handled=none) (hb:w.params.followText "set-order"=false) (hf:t.fits es.size=true) (hl:t.led=true) (hz:es.size<=1) (hne:a≠it) :
  Walks prog w A it [it,a] [it] es.size (fun i v=>(es.toList.map (·.2))[i]?=some v) (fun i h=>h.get? it=some (wE (rawInt (uG t i)) i a es.size ep)/\h.get? a=some (jC es ep t)) where
 sub:=fun b hb=>by simp at hb; simp [hb]
 frame:=fun _ _ _ st hk=>⟨hk it (by simp) _ st.1,hk a (by simp) _ st.2⟩
 item:=fun i s Q E hi st hQ=>by
  have he:es[i]?=some es[i]:=bR hi
  refine Jw (x:=es[i].2) (nx:=uG t (i+1)) st.1 st.2 hf rfl (fun A1 Q1 E1 q=>Wp hb hf hl hz st.2 (dt hi) (by rw [he]; exact q)) fun h' hi' sb=>hQ es[i].2 h' s.toks ?_ ⟨hi',?_⟩ fun b o nb eo=>?_
  ·rw [aY,bx,he]
   rfl
  ·rw [sb.2 a hne]
   exact st.2
  ·rw [sb.2 b (fun z=>nb (by simp [z]))]
   exact eo
 done:=fun s Q E st hQ=>Jx hh st.1 st.2 hf rfl (fun A1 Q1 E1 q=>Wp hb hf hl hz st.2 (ax _) (by rw [cY (ax _)]; exact q)) fun h' eb=>hQ h' s.toks fun b o nb eo=>eb b o (fun z=>nb (by simp [z])) eo
 self:=fun i s Q E st hQ=>xX st.1 rfl hQ
noncomputable def qdB (es:Array (Int×Value)) (ps:List Nat):List Value:=ps.map fun k=>(es[k]?.map (·.2)).getD .none
theorem YX (h:ps.Perm (bg es.size)):(qdB es ps).Perm (es.toList.map (·.2)):=by
 have e:qdB es (bg es.size)=es.toList.map (·.2):=by
  apply List.ext_getElem?
  intro i
  unfold qdB
  rw [aY,aY,show es.toList[i]?=es[i]? from bx]
  by_cases hi:i < es.size
  ·rw [List.getElem?_range hi,bR hi]
   simp [hi]
  ·rw [cF (by rw [dj]; omega),cY (by omega)]
   rfl
 rw [<-e]
 exact h.map _
theorem Uk {ep m:Nat} {t:SetTable} (hh:A.handled=none) (hf:t.fits es.size=true) (hp:ps.Perm (bg es.size)) (hne:a≠it) (hpe:p≠it) :
  Walks prog w A it [it,a,p] [it] es.size (fun i v=>(qdB es ps)[i]?=some v) (fun i h=>h.get? it=some (wE (.ref p) i a es.size ep)/\h.get? a=some (jC es ep t)/\h.get? p=some { cls:=.type "tuple",data:=.seq (ps.map fun (i:Nat)=>rawInt i).toArray m }) where
 sub:=fun b hb=>by simp at hb; simp [hb]
 frame:=fun _ _ _ st hk=>⟨hk it (by simp) _ st.1,hk a (by simp) _ st.2.1,hk p (by simp) _ st.2.2⟩
 item:=fun i s Q E hi st hQ=>by
  have hlen:ps.length=es.size:=by rw [hp.length_eq,dj]
  have hil:i < ps.length:=by omega
  have hk:ps[i] < es.size:=cB.mp (hp.mem_iff.mp (cA hil))
  have he:es[ps[i]]?=some es[ps[i]]:=bR hk
  refine Uj (x:=es[ps[i]].2) (hx:=es[ps[i]].1) (pl:=ps[i]) st.1 st.2.1 hf rfl st.2.2 ?_ he fun h' hi' sb=>hQ es[ps[i]].2 h' s.toks ?_ ⟨hi',?_,?_⟩ fun b o nb eo=>?_
  ·rw [et,aY,aJ hil]
   rfl
  ·unfold qdB
   rw [aY,aJ hil]
   simp [he]
  ·rw [sb.2 a hne]
   exact st.2.1
  ·rw [sb.2 p hpe]
   exact st.2.2
  ·rw [sb.2 b (fun z=>nb (by simp [z]))]
   exact eo
 done:=fun s Q E st hQ=>by
  have hlen:ps.length=es.size:=by rw [hp.length_eq,dj]
  refine YV hh st.1 st.2.1 hf rfl st.2.2 ?_ fun h' eb=>hQ h' s.toks fun b o nb eo=>eb b o (fun z=>nb (by simp [z])) eo
  rw [et,cF (by simp; omega)]
 self:=fun i s Q E st hQ=>xX st.1 rfl hQ
theorem Gw {t:SetTable} {A1:Around} {Q:Value->Shared->Prop} (hh:A1.handled=none) (ha:s.heap.get? a=some (jC es ep t)) (d:SetD prog w es t ks)
  (hQ:∀ (it:Addr) (h':Heap) (dr:Drawn) (ord:List Value) (fp:List Addr) (St:Nat->Heap->Prop),(∀ b o,s.heap.get? b=some o->h'.get? b=some o)->ord.Perm (es.toList.map (·.2))->Walks prog w A1 it fp [it] es.size (fun i v=>ord[i]?=some v) St->St 0 h' ->
   (∀ b∈fp,b=a\/s.heap.objs.size<=b)->s.heap.objs.size<=it->Q (.ref it) { s with heap:=h',drawn:=dr }):wpAny (model prog w) A (pyIter (.ref a)) Q E s:=by
 have hT:s.TypeIs (.ref a) "set":=⟨_,ha,rfl⟩
 have hlt:a < s.heap.objs.size:=ap ha
 refine wpAny_pyIter_slot hT PySem.F.slot_set_iter (wpAny_call_entry PySem.F.slot_set_iter hT Jv ?_ (PySem.F.args_set_iter_1 _))
 show wpAny _ _ (Builtin.Frozenset.sizeOf a >>= _) _ _ s
 refine wpAny_bind (m:=Builtin.Frozenset.sizeOf a) (wpAny_bind (wpAny_setEntries_of ha rfl d.fits (wpAny_pure ?_)))
 refine wpAny_bind (m:=setDrawn a) ?_
 unfold setDrawn
 refine wpAny_bind (wpAny_setState_of ha rfl d.fits ?_)
 dsimp only
 refine wpAny_bind (m:=setsByText) (wpAny_bind (wpAny_askSetting (wpAny_pure ?_)))
 refine wpAny_pure ?_
 cases hb:w.params.followText "set-order" with
 | true=>
  rw [kX hb,if_neg (by simp)]
  refine wpAny_bind (wpAny_pure ?_)
  refine wpAny_bind (m:=setEpoch a) (wpAny_setEpoch_of ha rfl d.fits ?_)
  refine wpAny_bind (wpAny_newObj_type (wpAny_pure ⟨_,rfl, "set_iterator",_,⟨_,ag _ rfl,rfl⟩,slot_si_next.lookup,?_⟩))
  refine hQ _ _ s.drawn _ _ _ (fun b o e=>aa _ e) ((xW (w.params.setOrder a ep) es).map _) (YW hh hb d.fits (ay hlt)) ⟨ag _ rfl,aa _ ha⟩ ?_ (ax _)
  intro b hb
  rcases ac.mp hb with z | z
  ·exact .inr (z ▸ ax _)
  ·exact .inl (aC.mp z)
 | false=>
  have hled:t.led=true:=by rw [d.led,hb]; rfl
  rw [kX hb]
  show wpAny _ _ (if (!false&&(!t.plain&&decide (es.size > 1)))=true then _ else _) _ _ _
  by_cases hn:es.size<=1
  ·rw [if_neg (by simp; intro _; omega)]
   refine wpAny_bind (wpAny_pure ?_)
   refine wpAny_bind (m:=setEpoch a) (wpAny_setEpoch_of ha rfl d.fits ?_)
   refine wpAny_bind (wpAny_newObj_type (wpAny_pure ⟨_,rfl, "set_iterator",_,⟨_,ag _ rfl,rfl⟩,slot_si_next.lookup,?_⟩))
   refine hQ _ _ s.drawn _ _ _ (fun b o e=>aa _ e) (cq _) (Gv hh hb d.fits hled hn (ay hlt)) ⟨ag _ rfl,aa _ ha⟩ ?_ (ax _)
   intro b hb
   rcases ac.mp hb with z | z
   ·exact .inr (z ▸ ax _)
   ·exact .inl (aC.mp z)
  ·have hpl:t.plain=false:=d.plain fun z=>by
    have h0:=d.size
    rw [z,aq] at h0
    omega
   rw [if_pos (by rw [hpl]; simp; omega)]
   refine wpAny_bind (YT es.size (bg es.size) s (by simp) fun ps dr hp=>?_)
   have hpl2:ps.length=es.size:=by rw [hp.length_eq,dj]
   have hsz:(ps.map fun (i:Nat)=>rawInt i).length<=sizeLine:=by rw [aG,hpl2]; exact fits_of_scanBound d.bd
   refine wpAny_bind (wpAny_newTuple ?_ hsz)
   refine wpAny_bind (m:=setEpoch a) (wpAny_setEpoch_of (aa _ ha) rfl d.fits ?_)
   refine wpAny_bind (wpAny_newObj_type (wpAny_pure ⟨_,rfl, "set_iterator",_,⟨_,ag _ rfl,rfl⟩,slot_si_next.lookup,?_⟩))
   have hp1:s.heap.objs.size < (s.heap.push ({ cls:=.type "tuple",data:=.seq (ps.map fun (i:Nat)=>rawInt i).toArray }:Obj)).objs.size:=by rw [bT]; exact eC _
   refine hQ _ _ dr _ _ _ (fun b o e=>aa _ (aa _ e)) (YX hp) (Uk (p:=s.heap.objs.size) hh d.fits hp (ay (d9 hlt hp1)) (ay hp1)) ⟨ag _ rfl,aa _ (aa _ ha),aa _ (ag _ rfl)⟩ ?_ (dt hp1)
   intro b hb
   rcases ac.mp hb with z | z
   ·exact .inr (z ▸ dt hp1)
   ·rcases ac.mp z with z | z
    ·exact .inl z
    ·exact .inr (dY (aC.mp z).symm)
end
section
theorem Gx {ord:List Value} {acc:Array Value} (hl:ord.length=n) (h:ItemsOf (fun i v=>ord[i]?=some v) acc n):acc.toList=ord:=by
 apply List.ext_getElem?
 intro i
 rw [show acc.toList[i]?=acc[i]? from bx]
 by_cases hi:i < acc.size
 ·rw [bR hi]
  exact (h.2 i _ (bR hi)).symm
 ·rw [cY (by omega),cF (by have:=h.1; omega)]
theorem KH {t:SetTable} {Q:List Value->Shared->Prop} (hh:A.handled=none) (ha:s.heap.get? a=some (jC es ep t)) (d:SetD prog w es t ks)
  (hQ:∀ h' dr tk ord,(∀ b o,s.heap.get? b=some o->h'.get? b=some o)->ord.Perm (es.toList.map (·.2))->Q ord { s with heap:=h',drawn:=dr,toks:=tk }):wpAny (model prog w) A (collect (.ref a)) Q E s:=by
 have hlt:a < s.heap.objs.size:=ap ha
 unfold collect
 refine wpAny_bind (wpAny_runValue (codeAny_builtin PySem.F.entry_proto_collect ?_)); rw [bE PySem.F.plain_proto_collect _]
 show wpAny _ A.in1 (newList [] >>= fun l=>again (.builtin "list.__iadd__" ⟨[l,.ref a],[]⟩)) _ _ s; refine wpAny_bind (wpAny_newObj_type ?_)
 refine wpAny_pure ⟨plainId_quiet PySem.F.plain_list_iadd _,codeAny_builtin PySem.F.entry_list_iadd ?_⟩; rw [bE PySem.F.plain_list_iadd _]
 have ha1:(s.heap.push { cls:=.type "list",data:=.seq ([]:List Value).toArray }).get? a=some (jC es ep t):=aa _ ha
 have hT:eF { s with heap:=s.heap.push { cls:=.type "list",data:=.seq ([]:List Value).toArray } } (.ref a) "set":=⟨_,ha1,rfl⟩
 show wpAny _ A.in1 (Builtin.List.listExtendWith (.ref s.heap.objs.size) (.ref a) (.ref s.heap.objs.size)) _ _ _; unfold Builtin.List.listExtendWith
 refine wpAny_bind (wpAny_typeOf hT ?_)
 have h1:Builtin.List.listSameRef (.ref s.heap.objs.size) (.ref a)=false:=by simp [Builtin.List.listSameRef,dw hlt]
 rw [if_neg (by rw [h1]; decide)]
 refine wpAny_bind (Gw (A1:=A.in1) hh ha1 d fun it h2 dr ord fp St k2 hp W hst hfp hit=>?_)
 have hS1:h2.get? s.heap.objs.size=some { cls:=.type "list",data:=.seq ([]:List Value).toArray }:=k2 _ _ (ag _ rfl)
 have ha2:h2.get? a=some (jC es ep t):=k2 _ _ ha1
 refine wpAny_bind (wpAny_holding ?_)
 unfold Builtin.List.listLengthHint
 have hT2:eF { s with heap:=h2,drawn:=dr } (.ref a) "set":=⟨_,ha2,rfl⟩
 refine wpAny_bind (wpAny_specialOf hT2 PySem.F.slot_set_len.lookup ?_)
 (generalize hid:("set.__len__":String)=id0; (fail_if_success (clear hid id0)); wp_delta; rw [show splitId id0=some ("set", "__len__") from by subst hid; decide +kernel]; subst hid)
 refine wpAny_bind (wpAny_isInstance (b:=true) hT2 (by rw [isSubtype_type]; kernel_rfl) ?_)
 refine wpAny_bind (m:=typeOf (.ref a)) (wpAny_typeOf hT2 ?_)
 refine wpAny_pure ?_
 show wpAny _ A.in1 (rule "list.extend.makes-room" >>= fun _=>Builtin.List.listTouch (.ref s.heap.objs.size) >>= fun _=>again (.builtin "list.extend.loop" ⟨[.ref s.heap.objs.size,.ref it,.ref s.heap.objs.size],[]⟩)) _ _ _
 refine wpAny_bind (wpAny_rule (wpAny_bind ?_)); show wpAny _ A.in1 (updateSeq s.heap.objs.size (·.push .none) >>= fun _=>updateSeq s.heap.objs.size (·.pop)) _ _ _
 refine wpAny_bind (wpAny_updateSeq hS1 rfl ?_); have hS₂:=bw (dm (·.push ck)) hS1 rfl
 refine wpAny_updateSeq hS₂ rfl ?_; have hS₃:=bw (dm (·.pop)) hS₂ rfl
 have hzs:(s.heap.push ({ cls:=.type "list",data:=.seq ([]:List Value).toArray }:Obj)).objs.size=s.heap.objs.size+1:=bT ..
 have oth:∀ b o,b≠s.heap.objs.size->h2.get? b=some o->((h2.update s.heap.objs.size (dm (·.push ck))).update s.heap.objs.size (dm (·.pop))).get? b=some o:=fun b o hb e=>(cX _ _ (aX hb)).trans ((cX _ _ (aX hb)).trans e)
 have nf:s.heap.objs.size∉fp:=fun z=>by
  rcases hfp _ z with q | q
  ·exact dw hlt q
  ·exact Nat.not_succ_le_self _ (hzs ▸ q)
 have hlen:ord.length=es.size:=by
  rw [hp.length_eq]
  simp
 refine wpAny_pure ⟨plainId_quiet PySem.F.plain_extend_loop _,codeAny_extend_loopS W.toS (fits_of_scanBound d.bd) _ nf _ es.size 0 _ _ _ rfl (bt _) (W.frame 0 h2 _ hst fun b hb o e=>oth b o (fun z=>nf (z ▸ hb)) e) hS₃ (ItemsOf.nil _) fun s' acc' c' hm hS' hacc=>?_⟩
 show wpAny _ A (load s.heap.objs.size >>= _) _ _ s'
 refine wpAny_bind (wpAny_load hS' (wpAny_pure ?_))
 rw [Gx hlen hacc]
 obtain ⟨h',g',d',tk',os'⟩:=s'
 have eg:g'=s.gens:=hm.gens
 have ed:d'=dr:=hm.drawn
 have eo:os'=s.os:=hm.os
 subst eg ed eo
 refine hQ h' d' tk' ord (fun b o e=>?_) hp
 have hb:=ap e
 refine hm.heap b o (fun z=>?_) (oth b o (ay hb) (k2 b o (aa _ e)))
 rcases ac.mp z with z | z
 ·exact ay hb z
 ·have h3:s.heap.objs.size+1<=it:=hzs ▸ hit
  rw [<-aC.mp z] at h3
  exact bu _ (d9 hb h3)
theorem Ul {Q:Value->Shared->Prop} (hh:A.handled=none) (hS:SetS prog w s.heap a ks) (h64:ks.length < 64)
  (hQ:∀ (h1 h':Heap) dr tk vs e ss,(∀ b o,s.heap.get? b=some o->h1.get? b=some o)->(∀ b o,h1.get? b=some o->h'.get? b=some o)->h'.get? h1.objs.size=some (seqObj "list" vs e)->StrsAre vs.toList ss->ss.Perm ks->sortedS ss=true->Q (.ref h1.objs.size) { s with heap:=h',drawn:=dr,toks:=tk }) :
  wpAny (model prog w) A (call (.builtin "sorted") [.ref a]) Q E s:=by
 obtain ⟨es,ep,t,ha,d⟩:=hS
 refine Calls.call_function_entry kind_sorted plain_sorted entry_sorted (args_sorted1 _) ?_; unfold Builtin.«sorted»
 refine wpAny_bind (m:=checkCount "sorted" 1 1 _) (wpAny_pure ?_)
 refine wpAny_bind (KH (by exact hh) ha d fun h1 dr tk ord k1 hp=>?_)
 have hst:StrsAre ord (ord.map strOf):=strsAre_map ord fun v hv=>by
  obtain ⟨e,he,rfl⟩:=aH.mp (hp.mem_iff.mp hv)
  exact YO d.el he
 have hpk:(ord.map strOf).Perm ks:=(hp.map strOf).trans (by rw [fm]; exact d.perm)
 have hlen:ord.length=ks.length:=by
  have:=hpk.length_eq
  rwa [aG] at this
 refine wpAny_bind (wpAny_newList ?_ (by rw [hlen,sizeLine_eq]; omega))
 have hoL:(h1.push (seqObj "list" ord.toArray 0)).get? h1.objs.size=some (seqObj "list" ord.toArray 0):=ag _ rfl
 refine wpAny_bind (wpAny_holding (wpAny_call_entry slot_list_sort (s:={ s with heap:=h1.push (seqObj "list" ord.toArray 0),drawn:=dr,toks:=tk }) ⟨_,hoL,rfl⟩ entry_list_sort (list_sort_treeK strKind_oneLt hoL hst.keysOf (fun v₁ v₂ rest e=>keyKind_strs (by rw [<-e]; exact hst)) (by rw [hlen]; exact h64) fun st' a1 a2=>⟨_,rfl,?_⟩) (args_list_sort _)))
 obtain ⟨ss',b1,b2,b3⟩:=sorted_out_str hst a1 a2
 obtain ⟨e,he⟩:=sortedHeap_at (out:=(arrOf st').map (·.2)) hoL
 refine wpAny_pure ⟨_,rfl,hQ h1 _ dr tk _ e ss' k1 (fun b o eb=>?_) he b1 (b2.trans hpk) b3⟩
 have hb:=ap eb
 rw [sortedHeap_old (ay hb) (by rw [bT]; exact dg hb)]
 exact aa _ eb
end
section
theorem Jz {l:Addr} {x:Value} {Q:Value->Shared->Prop} (hit:s.heap.IsTupleIter it l i) (hl:s.heap.IsTuple l items) (hx:items[i]?=some x)
  (hQ:∀ h',h'.IsTupleIter it l (i+1)->bA it s.heap h'->Q x { s with heap:=h' }):wpAny (model prog w) A (bh (.ref it)) Q E s:=by
 obtain ⟨o,ho,hc,hd⟩:=id hit
 obtain ⟨ol,hol,_,nl,hdl⟩:=hl
 unfold bh
 refine wpAny_bind (wpAny_callSpecial?_slot (name:=ao "__next__") hit.typeIs ce (wpAny_call_entry ce hit.typeIs PySem.F.entry_tuple_iterator_next ?_ (PySem.F.args_tuple_iterator_next_1 _))); show wpAny _ _ (field (.ref it) 0 >>= _) _ _ s
 refine wpAny_bind (wpAny_field ho hd (x:=.ref l) rfl ?_); show wpAny _ _ (if (bQ l == ck)=true then _ else _) _ _ s
 rw [if_neg (show ¬((bQ l == ck)=true) from bX)]; show wpAny _ _ (field (.ref it) 1 >>= _) _ _ s
 refine wpAny_bind (wpAny_field ho hd (x:=.int i 0) rfl ?_); show wpAny _ _ (seqItems? (.ref l) >>= _) _ _ s
 refine wpAny_bind (wpAny_seqItems hol hdl ?_); simp only [eZ,hx]
 refine wpAny_bind (wpAny_setField ho hd (by simp) (wpAny_pure ⟨x,rfl,wpAny_pure (hQ _ ?_ (bb ..))⟩)); exact ⟨_,bw _ ho (Obj.isFreed_of_fields (Obj.data_mapFields hd _)),(Obj.cls_mapFields ..).trans hc,by rw [Obj.data_mapFields hd]; simp [rawInt]⟩
theorem xg {l:Addr} {Q:Value->Shared->Prop} (hh:A.handled=none) (hit:s.heap.IsTupleIter it l i) (hl:s.heap.IsTuple l items) (hx:items[i]?=none)
  (hE:∀ h' e,fL it s.heap h'->(∃ o,h'.get? e=some o/\o.cls=.type "StopIteration")->E (.ref e) { s with heap:=h' }):wpAny (model prog w) A (bh (.ref it)) Q E s:=by
 obtain ⟨o,ho,hc,hd⟩:=id hit
 obtain ⟨ol,hol,_,nl,hdl⟩:=hl
 unfold bh
 refine wpAny_bind (wpAny_callSpecial?_slot (name:=ao "__next__") hit.typeIs ce (wpAny_call_entry ce hit.typeIs PySem.F.entry_tuple_iterator_next ?_ (PySem.F.args_tuple_iterator_next_1 _))); show wpAny _ _ (field (.ref it) 0 >>= _) _ _ s
 refine wpAny_bind (wpAny_field ho hd (x:=.ref l) rfl ?_); show wpAny _ _ (if (bQ l == ck)=true then _ else _) _ _ s
 rw [if_neg (show ¬((bQ l == ck)=true) from bX)]; show wpAny _ _ (field (.ref it) 1 >>= _) _ _ s
 refine wpAny_bind (wpAny_field ho hd (x:=.int i 0) rfl ?_); show wpAny _ _ (seqItems? (.ref l) >>= _) _ _ s
 refine wpAny_bind (wpAny_seqItems hol hdl ?_); simp only [eZ,hx]
 refine wpAny_bind (wpAny_rule (wpAny_bind (wpAny_setField ho hd (by simp) ?_))); show wpAny _ _ (newExc (.type "StopIteration") [] >>= _) _ _ _
 refine wpAny_bind ?_; simp only [newExc,newTuple]; refine wpAny_bind (wpAny_newObj_type ?_ (by size_fits))
 refine wpAny_bind (m:=firstArgMember _ _) (wpAny_of_eq (a:=ck) (by first | rfl | (simp only [firstArgMember]; rfl)) ?_); refine wpAny_newObj_type ?_ (by size_fits); simp only [raiseNew]
 refine wpAny_bind (wpAny_handled ?_); first | rw [show A.in1.handled=none from hh] | rw [hh]
 refine wpAny_bind (wpAny_pure (wpAny_throw ?_)); exact hE _ _ (((bb ..).extBut.push _).push _) ⟨_,ag _ rfl,rfl⟩
theorem KI (hh:A.handled=none) (it l:Addr) (hne:l≠it) (items:Array Value):Draws prog w A it [it,l] items.size (fun i v=>items[i]?=some v) (fun i h=>h.IsTupleIter it l i/\h.IsTuple l items) where
 live:=fun _ _ st=>let ⟨o,ho,_⟩:=st.1; ⟨o,ho⟩
 frame:=fun _ _ _ st hk=>⟨st.1.at fun o e=>hk it (by simp) o e,let ⟨o,e,c⟩:=st.2; ⟨o,hk l (by simp) o e,c⟩⟩
 item:=fun i s Q E hi st hQ=>by
  refine Jz st.1 st.2 (x:=items[i]) (by simp [hi]) fun h' hit' hs'=>hQ _ h' s.toks (by simp [hi]) ⟨hit',?_⟩ hs'
  obtain ⟨o,e,c⟩:=st.2
  exact ⟨o,(hs'.2 l hne).trans e,c⟩
 done:=fun s Q E st hE=>xg hh st.1 st.2 (by simp) hE
structure Apart2 (z TI TO i1 i2:Addr) (fp1 fp2:List Addr):Prop where
 TIz:TI≠z
 TOz:TO≠z
 i1z:i1≠z
 i2z:i2≠z
 TITO:TI≠TO
 TIi1:TI≠i1
 TIi2:TI≠i2
 TOi1:TO≠i1
 TOi2:TO≠i2
 i12:i1≠i2
 z1:z∉fp1
 z2:z∉fp2
 o1:TO∉fp1
 o2:TO∉fp2
 a12:i1∉fp2
 a21:i2∉fp1
variable {z TI TO i1 i2:Addr} {fp1 fp2:List Addr} {n1 n2:Nat} {P1 P2:Nat->Value->Prop} {S1 S2:Nat->Heap->Prop} {a b:Value}
theorem Gy {Q:Value->Shared->Prop} (D:Apart2 z TI TO i1 i2 fp1 fp2) (D1:Draws prog w A i1 fp1 n1 P1 S1) (D2:Draws prog w A i2 fp2 n2 P2 S2)
  (hz:IsZip s.heap z TI TO .none) (hTI:IsPair s.heap TI (.ref i1) (.ref i2)) (hTO:IsPair s.heap TO a b) (h1:S1 i s.heap) (h2:S2 i s.heap) (l1:i < n1) (l2:i < n2)
  (hQ:∀ x y h' tk,P1 i x->P2 i y->IsZip h' z TI TO (rawInt s.heap.objs.size)->IsPair h' TO x y->S1 (i+1) h'->S2 (i+1) h'->IsPair h' s.heap.objs.size x y ->
   (∀ c o,c≠z->c≠TO->c≠i1->c≠i2->s.heap.get? c=some o->h'.get? c=some o)->Q (.ref s.heap.objs.size) { s with heap:=h',toks:=tk }) :
  wpAny (model prog w) A (Builtin.«zip.__next__» ⟨[.ref z],[]⟩) (fun fin s'=>∃ v,fin=.done (.ret v)/\Q v s') E s:=by
 show wpAny _ _ (field (.ref z) 2 >>= _) _ _ _; refine wpAny_bind (wpAny_field hz rfl (x:=.bool false) rfl ?_)
 show wpAny _ _ (field (.ref z) 3 >>= _) _ _ _; refine wpAny_bind (wpAny_field hz rfl (x:=.ref TI) rfl ?_); refine wpAny_bind (wpAny_seqItems hTI rfl ?_)
 show wpAny _ _ (bV (.ref z) >>= _) _ _ _; refine wpAny_bind ?_; unfold bV
 refine wpAny_bind (wpAny_field hz rfl (x:=.none) rfl (wpAny_pure ?_)); simp only [if_true]
 refine wpAny_bind (wpAny_rule ?_); refine wpAny_bind (wpAny_field hz rfl (x:=.ref TO) rfl ?_)
 refine wpAny_bind (wpAny_setField_rec hz (by simp) fun h₁ hz₁ hs₁=>?_); replace hz₁:IsZip h₁ z TI TO .ellipsis:=hz₁
 refine wpAny_bind ?_; simp only [List.zipIdx_cons,List.zipIdx_nil,fA,List.forIn_nil]
 refine wpAny_bind (wpAny_bind (wpAny_onRaise ?_)); show wpAny _ _ (bh (.ref i1) >>= _) _ _ _
 refine wpAny_bind (D1.item i _ _ _ l1 (D1.frame _ _ _ h1 fun c hc o e=>hs₁.extBut _ _ (fun q=>D.z1 (q ▸ hc)) e) fun x h₂ tk₂ hx s1₂ hs₂=>wpAny_pure ?_)
 have hTO₂:IsPair h₂ TO a b:=(hs₂.2 _ D.TOi1).trans (hs₁.extBut _ _ D.TOz hTO)
 refine wpAny_bind (wpAny_seqItems hTO₂ rfl ?_); refine wpAny_bind (wpAny_updateSeq_pair hTO₂ fun h₃ hTO₃ hs₃=>?_)
 replace hTO₃:IsPair h₃ TO x b:=hTO₃; refine wpAny_bind (wpAny_letGo (wpAny_pure ?_))
 refine wpAny_bind (wpAny_bind (wpAny_onRaise ?_)); show wpAny _ _ (bh (.ref i2) >>= _) _ _ _
 refine wpAny_bind (D2.item i _ _ _ l2 (D2.frame _ _ _ h2 fun c hc o e=>(hs₃.extBut _ _ (fun q=>D.o2 (q ▸ hc)) ((hs₂.2 _ (fun q=>D.a12 (q ▸ hc))).trans (hs₁.extBut _ _ (fun q=>D.z2 (q ▸ hc)) e)))) fun y h₄ tk₄ hy s2₄ hs₄=>wpAny_pure ?_)
 have hTO₄:IsPair h₄ TO x b:=(hs₄.2 _ D.TOi2).trans hTO₃
 refine wpAny_bind (wpAny_seqItems hTO₄ rfl ?_); refine wpAny_bind (wpAny_updateSeq_pair hTO₄ fun h₅ hTO₅ hs₅=>?_)
 replace hTO₅:IsPair h₅ TO x y:=hTO₅; refine wpAny_bind (wpAny_letGo (wpAny_pure (wpAny_pure ?_)))
 refine wpAny_bind (wpAny_seqItems hTO₅ rfl ?_); refine wpAny_bind (wpAny_newTuple ?_)
 have hsz:h₅.objs.size=s.heap.objs.size:=by rw [hs₅.1,hs₄.1,hs₃.1,hs₂.1,hs₁.1]
 have hz₅:IsZip h₅ z TI TO .ellipsis:=hs₅.extBut _ _ D.TOz.symm ((hs₄.2 _ D.i2z.symm).trans (hs₃.extBut _ _ D.TOz.symm ((hs₂.2 _ D.i1z.symm).trans hz₁)))
 have hk₅:∀ c o,c≠z->c≠TO->c≠i1->c≠i2->s.heap.get? c=some o->h₅.get? c=some o:=fun c o c1 c2 c3 c4 e=>hs₅.extBut _ _ c2 ((hs₄.2 _ c4).trans (hs₃.extBut _ _ c2 ((hs₂.2 _ c3).trans (hs₁.extBut _ _ c1 e))))
 have hzlt:z < h₅.objs.size:=ap hz₅
 show wpAny _ _ (Builtin.SmallTypes.ownedTupleHandOut (.ref z) (.ref h₅.objs.size) >>= _) _ _ _; refine wpAny_bind ?_; unfold Builtin.SmallTypes.ownedTupleHandOut
 have hz₆:IsZip (h₅.push { cls:=.type "tuple",data:=.seq #[x,y] }) z TI TO .ellipsis:=aa _ hz₅
 refine wpAny_bind (wpAny_setField_rec hz₆ (by simp) fun h₇ hz₇ hs₇=>?_); replace hz₇:IsZip h₇ z TI TO (rawInt h₅.objs.size):=hz₇
 refine wpAny_setField_rec hz₇ (by simp) fun h₈ hz₈ hs₈=>?_; replace hz₈:IsZip h₈ z TI TO (rawInt h₅.objs.size):=hz₈
 have up:∀ c o,c≠z->h₅.get? c=some o->h₈.get? c=some o:=fun c o c1 e=>hs₈.extBut _ _ c1 (hs₇.extBut _ _ c1 (aa _ e))
 have hT₈:IsPair h₈ h₅.objs.size x y:=hs₈.extBut _ _ (dw hzlt) (hs₇.extBut _ _ (dw hzlt) (ag _ rfl))
 rw [hsz] at hz₈ hT₈
 refine wpAny_pure ⟨_,rfl,?_⟩
 show Q (.ref h₅.objs.size) _
 rw [hsz]
 refine hQ x y h₈ tk₄ hx hy hz₈ (up _ _ D.TOz hTO₅) (D1.frame _ _ _ s1₂ fun c hc o e=>up _ _ (fun q=>D.z1 (q ▸ hc)) (hs₅.extBut _ _ (fun q=>D.o1 (q ▸ hc)) ((hs₄.2 _ (fun q=>D.a21 (q ▸ hc))).trans (hs₃.extBut _ _ (fun q=>D.o1 (q ▸ hc)) e))))
  (D2.frame _ _ _ s2₄ fun c hc o e=>up _ _ (fun q=>D.z2 (q ▸ hc)) (hs₅.extBut _ _ (fun q=>D.o2 (q ▸ hc)) e)) hT₈ fun c o c1 c2 c3 c4 e=>up c o c1 (hk₅ c o c1 c2 c3 c4 e)
theorem qbU {Q:Fin->Shared->Prop} (D:Apart2 z TI TO i1 i2 fp1 fp2) (D1:Draws prog w A i1 fp1 n1 P1 S1) (D2:Draws prog w A i2 fp2 n2 P2 S2)
  (hz:IsZip s.heap z TI TO .none) (hTI:IsPair s.heap TI (.ref i1) (.ref i2)) (hTO:IsPair s.heap TO a b) (h1:S1 i s.heap) (h2:S2 i s.heap) (hend:i=n1\/(i < n1/\i=n2))
  (hE:∀ h' tk e,(∀ c o,c≠z->c≠TO->c≠i1->c≠i2->s.heap.get? c=some o->h'.get? c=some o)->(∃ o,h'.get? e=some o/\o.cls=.type "StopIteration")->E (.ref e) { s with heap:=h',toks:=tk }) :
  wpAny (model prog w) A (Builtin.«zip.__next__» ⟨[.ref z],[]⟩) Q E s:=by
 show wpAny _ _ (field (.ref z) 2 >>= _) _ _ _; refine wpAny_bind (wpAny_field hz rfl (x:=.bool false) rfl ?_)
 show wpAny _ _ (field (.ref z) 3 >>= _) _ _ _; refine wpAny_bind (wpAny_field hz rfl (x:=.ref TI) rfl ?_); refine wpAny_bind (wpAny_seqItems hTI rfl ?_)
 show wpAny _ _ (bV (.ref z) >>= _) _ _ _; refine wpAny_bind ?_; unfold bV
 refine wpAny_bind (wpAny_field hz rfl (x:=.none) rfl (wpAny_pure ?_)); simp only [if_true]
 refine wpAny_bind (wpAny_rule ?_); refine wpAny_bind (wpAny_field hz rfl (x:=.ref TO) rfl ?_)
 refine wpAny_bind (wpAny_setField_rec hz (by simp) fun h₁ hz₁ hs₁=>?_); replace hz₁:IsZip h₁ z TI TO .ellipsis:=hz₁
 refine wpAny_bind ?_; simp only [List.zipIdx_cons,List.zipIdx_nil,fA,List.forIn_nil]
 refine wpAny_bind (wpAny_bind (wpAny_onRaise ?_)); show wpAny _ _ (bh (.ref i1) >>= _) _ _ _
 have f1:S1 i h₁:=D1.frame _ _ _ h1 fun c hc o e=>hs₁.extBut _ _ (fun q=>D.z1 (q ▸ hc)) e
 rcases hend with rfl | ⟨hlt,rfl⟩
 ·refine wpAny_bind (D1.done _ _ _ f1 fun h₂ e hs₂ he=>?_)
  obtain ⟨oe,hoe,hce⟩:=he
  have hz₂:IsZip h₂ z TI TO .ellipsis:=hs₂ _ _ D.i1z.symm hz₁
  have hez:e≠z:=fun x=>by subst x; rw [hz₂] at hoe; cases hoe; simp at hce
  exact wpAny_setField_rec hz₂ (by simp) fun h₃ _ hs₃=>hE h₃ s.toks e (fun c o c1 _ c3 _ x=>hs₃.extBut _ _ c1 (hs₂ _ _ c3 (hs₁.extBut _ _ c1 x))) ⟨oe,hs₃.extBut _ _ hez hoe,hce⟩
 ·refine wpAny_bind (D1.item i _ _ _ hlt f1 fun x h₂ tk₂ hx s1₂ hs₂=>wpAny_pure ?_)
  have hTO₂:IsPair h₂ TO a b:=(hs₂.2 _ D.TOi1).trans (hs₁.extBut _ _ D.TOz hTO)
  refine wpAny_bind (wpAny_seqItems hTO₂ rfl ?_); refine wpAny_bind (wpAny_updateSeq_pair hTO₂ fun h₃ hTO₃ hs₃=>?_)
  refine wpAny_bind (wpAny_letGo (wpAny_pure ?_)); refine wpAny_bind (wpAny_bind (wpAny_onRaise ?_)); show wpAny _ _ (bh (.ref i2) >>= _) _ _ _
  refine wpAny_bind (D2.done _ _ _ (D2.frame _ _ _ h2 fun c hc o e=>(hs₃.extBut _ _ (fun q=>D.o2 (q ▸ hc)) ((hs₂.2 _ (fun q=>D.a12 (q ▸ hc))).trans (hs₁.extBut _ _ (fun q=>D.z2 (q ▸ hc)) e)))) fun h₄ e hs₄ he=>?_)
  obtain ⟨oe,hoe,hce⟩:=he
  have hz₄:IsZip h₄ z TI TO .ellipsis:=hs₄ _ _ D.i2z.symm (hs₃.extBut _ _ D.TOz.symm ((hs₂.2 _ D.i1z.symm).trans hz₁))
  have hez:e≠z:=fun x=>by subst x; rw [hz₄] at hoe; cases hoe; simp at hce
  exact wpAny_setField_rec hz₄ (by simp) fun h₅ _ hs₅=>hE h₅ tk₂ e (fun c o c1 c2 c3 c4 x=>hs₅.extBut _ _ c1 (hs₄ _ _ c4 (hs₃.extBut _ _ c2 ((hs₂.2 _ c3).trans (hs₁.extBut _ _ c1 x))))) ⟨oe,hs₅.extBut _ _ hez hoe,hce⟩
theorem KJ {Q:Option Value->Shared->Prop} (D:Apart2 z TI TO i1 i2 fp1 fp2) (D1:Draws prog w A.in1 i1 fp1 n1 P1 S1) (D2:Draws prog w A.in1 i2 fp2 n2 P2 S2)
  (hz:IsZip s.heap z TI TO .none) (hTI:IsPair s.heap TI (.ref i1) (.ref i2)) (hTO:IsPair s.heap TO a b) (h1:S1 i s.heap) (h2:S2 i s.heap) (l1:i < n1) (l2:i < n2)
  (hQ:∀ x y h' tk,P1 i x->P2 i y->IsZip h' z TI TO (rawInt s.heap.objs.size)->IsPair h' TO x y->S1 (i+1) h'->S2 (i+1) h'->IsPair h' s.heap.objs.size x y ->
   (∀ c o,c≠z->c≠TO->c≠i1->c≠i2->s.heap.get? c=some o->h'.get? c=some o)->Q (some (.ref s.heap.objs.size)) { s with heap:=h',toks:=tk }):wpAny (model prog w) A (pyNext (.ref z)) Q E s:=by
 have hT:s.TypeIs (.ref z) "zip":=⟨_,hz,rfl⟩
 unfold pyNext
 exact wpAny_bind (wpAny_attempt (wpAny_callSpecial?_slot (name:=ao "__next__") hT da (wpAny_call_entry da hT PySem.F.entry_zip_next
  (Gy D D1 D2 hz hTI hTO h1 h2 l1 l2 fun x y h' tk a1 a2 a3 a4 a5 a6 a7 a8=>wpAny_pure (hQ x y h' tk a1 a2 a3 a4 a5 a6 a7 a8)) (PySem.F.args_zip_next_1 _))))
theorem Um {Q:Option Value->Shared->Prop} (D:Apart2 z TI TO i1 i2 fp1 fp2) (D1:Draws prog w A.in1 i1 fp1 n1 P1 S1) (D2:Draws prog w A.in1 i2 fp2 n2 P2 S2)
  (hz:IsZip s.heap z TI TO .none) (hTI:IsPair s.heap TI (.ref i1) (.ref i2)) (hTO:IsPair s.heap TO a b) (h1:S1 i s.heap) (h2:S2 i s.heap) (hend:i=n1\/(i < n1/\i=n2))
  (hQ:∀ h' tk,(∀ c o,c≠z->c≠TO->c≠i1->c≠i2->s.heap.get? c=some o->h'.get? c=some o)->Q none { s with heap:=h',toks:=tk }):wpAny (model prog w) A (pyNext (.ref z)) Q E s:=by
 have hT:s.TypeIs (.ref z) "zip":=⟨_,hz,rfl⟩
 unfold pyNext
 refine wpAny_bind (wpAny_attempt (wpAny_callSpecial?_slot (name:=ao "__next__") hT da (wpAny_call_entry da hT PySem.F.entry_zip_next (qbU D D1 D2 hz hTI hTO h1 h2 hend fun h' tk e hk he=>?_) (PySem.F.args_zip_next_1 _))))
 obtain ⟨o,ho,hc⟩:=he
 refine wpAny_bind (wpAny_isInstance (T := "StopIteration") (b:=true) ⟨o,ho,hc⟩ isSubtype_stop ?_)
 exact wpAny_pure (hQ _ _ hk)
end
inductive SK where
 | l | t
noncomputable def SK.itc:SK->String
 | .l => "list_iterator"
 | .t => "tuple_iterator"
def SeqK (h:Heap) (a:Addr):SK->Array Value->Prop
 | .l,xs=>h.IsList a xs
 | .t,xs=>h.IsTuple a xs
def ItK (h:Heap) (it a:Addr):SK->Nat->Prop
 | .l,i=>h.IsListIter it a i
 | .t,i=>h.IsTupleIter it a i
def SqK (K:Frag) (H:Hp) (a:Addr):SK->List V->Prop
 | .l,xs=>SqL K H a xs
 | .t,xs=>SqT K H a xs
theorem SeqK.at:∀ {k:SK},SeqK h a k xs->(∀ o,h.get? a=some o->h'.get? a=some o)->SeqK h' a k xs
 | .l,⟨o,e,c⟩,k=>⟨o,k _ e,c⟩
 | .t,⟨o,e,c⟩,k=>⟨o,k _ e,c⟩
theorem SeqK.lt:∀ {k:SK},SeqK h a k xs->a < h.objs.size
 | .l,⟨o,e,c⟩=>ap e
 | .t,⟨o,e,c⟩=>ap e
theorem ItK.obj:∀ {k:SK},ItK h it a k i->∃ o,h.get? it=some o/\o.cls=.type k.itc/\o.data=.fields #[.ref a,.int i 0]
 | .l,⟨o,e,c,d⟩=>⟨o,e,c,d⟩
 | .t,⟨o,e,c,d⟩=>⟨o,e,c,d⟩
theorem ItK.of:∀ {k:SK},(∃ o,h.get? it=some o/\o.cls=.type k.itc/\o.data=.fields #[.ref a,.int i 0])->ItK h it a k i
 | .l,⟨o,e,c,d⟩=>⟨o,e,c,d⟩
 | .t,⟨o,e,c,d⟩=>⟨o,e,c,d⟩
section
theorem qdC {k:SK} (h:SeqK s.heap a k xs) (hQ:Q (.ref s.heap.objs.size) { s with heap:=s.heap.push { cls:=.type k.itc,data:=.fields #[.ref a,.int 0 0] } }):wpAny (model prog w) A (pyIter (.ref a)) Q E s:=by
 cases k with
 | l=>exact wpAny_pyIter_list h hQ
 | t=>exact wpAny_pyIter_tuple h hQ
theorem Wq (hh:A.handled=none) (k:SK) (it l:Addr) (hne:l≠it) (items:Array Value):Draws prog w A it [it,l] items.size (fun i v=>items[i]?=some v) (fun i h=>ItK h it l k i/\SeqK h l k items):=by
 cases k with
 | l=>exact Draws.list hh it l hne items
 | t=>exact KI hh it l hne items
end
abbrev zH1 (k1:SK) (h:Heap) (l1:Addr):Heap:=h.push { cls:=.type k1.itc,data:=.fields #[.ref l1,.int 0 0] }
abbrev zH2 (k1 k2:SK) (h:Heap) (l1 l2:Addr):Heap:=(zH1 k1 h l1).push { cls:=.type k2.itc,data:=.fields #[.ref l2,.int 0 0] }
abbrev zH3 (k1 k2:SK) (h:Heap) (l1 l2:Addr):Heap:=(zH2 k1 k2 h l1 l2).push { cls:=.type "tuple",data:=.seq #[.ref h.objs.size,.ref (zH1 k1 h l1).objs.size] }
abbrev zH4 (k1 k2:SK) (h:Heap) (l1 l2:Addr):Heap:=(zH3 k1 k2 h l1 l2).push { cls:=.type "tuple",data:=.seq #[.none,.none] }
abbrev zH5 (k1 k2:SK) (h:Heap) (l1 l2:Addr):Heap:=(zH4 k1 k2 h l1 l2).push { cls:=.type "zip",data:=.fields #[.none,.bool false,.bool false,.ref (zH2 k1 k2 h l1 l2).objs.size,.ref (zH3 k1 k2 h l1 l2).objs.size] }
theorem YY (k1 k2:SK) (l1 l2:Addr) (xs ys:Array Value):Meets (Builtin.«zip.__new__» ⟨[.type "zip",.ref l1,.ref l2],[]⟩) (fun _ R s=>SeqK s.heap l1 k1 xs/\SeqK s.heap l2 k2 ys/\R (.ok (.ret (.ref (zH4 k1 k2 s.heap l1 l2).objs.size))) { s with heap:=zH5 k1 k2 s.heap l1 l2 }):=
 .of_wp fun prog w A R s h=>by
  obtain ⟨hp,g,d,tk,os⟩:=s; obtain ⟨hl1,hl2,h⟩:=h
  have hsub:=sub_zip
  have hL1:SeqK (Shared.heap ⟨hp,g,d,tk,os⟩) l1 k1 xs:=hl1
  have hL2:SeqK (Shared.heap ⟨hp.push { cls:=.type k1.itc,data:=.fields #[.ref l1,.int 0 0] },g,d,tk,os⟩) l2 k2 ys:=SeqK.at hl2 fun o e=>aa _ e
  wp_walk using qdC hL1,qdC hL2
  exact ⟨_,rfl,h⟩
section
theorem YZ {k1 k2:SK} {l1 l2:Addr} {ys:Array Value} {Q:Value->Shared->Prop} (hl1:SeqK s.heap l1 k1 xs) (hl2:SeqK s.heap l2 k2 ys)
  (h:∀ h',IsZip h' (s.heap.objs.size+4) (s.heap.objs.size+2) (s.heap.objs.size+3) .none->IsPair h' (s.heap.objs.size+2) (.ref s.heap.objs.size) (.ref (s.heap.objs.size+1)) ->
   IsPair h' (s.heap.objs.size+3) .none .none->ItK h' s.heap.objs.size l1 k1 0->ItK h' (s.heap.objs.size+1) l2 k2 0->(∀ c o,s.heap.get? c=some o->h'.get? c=some o)->Q (.ref (s.heap.objs.size+4)) { s with heap:=h' }) :
  wpAny (model prog w) A (call (.type "zip") [.ref l1,.ref l2]) Q E s:=by
 refine callType_new PySem.F.called_zip (by decide) (PySem.F.typeCall_zip_2 _ _) (PySem.F.newCall_zip_2 _ _) (fun obj=>PySem.F.args_object_init_3 obj _ _) PySem.F.entry_zip_new (YY k1 k2 l1 l2 xs ys) ⟨hl1,hl2,?_⟩
 have z1:(zH1 k1 s.heap l1).objs.size=s.heap.objs.size+1:=bT ..
 have z2:(zH2 k1 k2 s.heap l1 l2).objs.size=s.heap.objs.size+2:=by rw [bT,z1]
 have z3:(zH3 k1 k2 s.heap l1 l2).objs.size=s.heap.objs.size+3:=by rw [bT,z2]
 have z4:(zH4 k1 k2 s.heap l1 l2).objs.size=s.heap.objs.size+4:=by rw [bT,z3]
 have g5:(zH5 k1 k2 s.heap l1 l2).get? (zH4 k1 k2 s.heap l1 l2).objs.size=some _:=ag _ rfl
 have g4:(zH5 k1 k2 s.heap l1 l2).get? (zH3 k1 k2 s.heap l1 l2).objs.size=some _:=aa _ (ag _ rfl)
 have g3:(zH5 k1 k2 s.heap l1 l2).get? (zH2 k1 k2 s.heap l1 l2).objs.size=some _:=aa _ (aa _ (ag _ rfl))
 have g2:(zH5 k1 k2 s.heap l1 l2).get? (zH1 k1 s.heap l1).objs.size=some _:=aa _ (aa _ (aa _ (ag _ rfl)))
 have g1:(zH5 k1 k2 s.heap l1 l2).get? s.heap.objs.size=some _:=aa _ (aa _ (aa _ (aa _ (ag _ rfl))))
 show _/\_
 rw [z2,z3,z4] at g5
 rw [z1,z2] at g3
 rw [z3] at g4
 rw [z1] at g2
 rw [z4]
 exact ⟨⟨_,g5,rfl⟩,h _ g5 g3 g4 (.of ⟨_,g1,rfl,rfl⟩) (.of ⟨_,g2,rfl,rfl⟩) fun c o x=>aa _ (aa _ (aa _ (aa _ (aa _ x))))⟩
end
variable {t':Nat}
section
theorem Xa {ch:List Addr} (I:Inv X pins σ H s) (k:∀ b o,b∉ch->s.heap.get? b=some o->h'.get? b=some o) (hf:∀ b∈ch,Kf X pins H b):Inv X pins σ H { s with heap:=h',toks:=t' }:=by
 have nit:∀ b u,H b=some u->b∉ch:=fun b u e z=>by
  rw [(hf b z).1] at e
  cases e
 refine I.step (g':=s.gens) (d':=s.drawn) (ch:=ch) (fun b hb=>?_) (fun b o _ _ hc e _=>k b o hc e) (fun b o _ _ hc e _=>⟨o.slots,k b o hc e⟩) (fun _ _ _ _ n=>n) (fun b o hc e=>⟨o,k b o hc e⟩) (fun _ _ e=>e) (fun _ _ _ e=>e) (fun b ps e=>⟨#[],by rw [e]; simp⟩) (fun m hm=>?_) (fun b u e=>?_) I.bare
 ·obtain ⟨f0,f1,f2,f3,f4,f5⟩:=hf b hb
  exact ⟨f3,f1,f4,f5⟩
 ·obtain ⟨o,es,ep,ho,r⟩:=hm
  exact ⟨o,es,ep,k _ o (fun z=>(hf _ z).2.1 rfl) ho,r⟩
 ·refine (I.hok b u e).stay (fun c v hc q=>k c v ?_ q) (fun _ q=>q) fun _ _ q=>q
  rcases hc with z | z
  ·rw [z]
   exact nit b u e
  ·exact nit c _ z
theorem qgm {d':Drawn} (I:Inv X pins σ H s) (k:∀ b u,s.heap.get? b=some u->h'.get? b=some u):Inv X pins σ H { s with heap:=h',drawn:=d',toks:=t' }:=by
 refine I.step (g':=s.gens) (d':=d') (ch:=[]) (fun _ z=>nomatch z) (fun b o _ _ _ e _=>k b o e) (fun b o _ _ _ e _=>⟨o.slots,k b o e⟩) (fun _ _ _ _ n=>n) (fun b o _ e=>⟨o,k b o e⟩) (fun _ _ e=>e) (fun _ _ _ e=>e) (fun b ps e=>⟨#[],by rw [e]; simp⟩) (fun m hm=>?_) (I.hok.kept k) I.bare
 obtain ⟨o,es,ep,ho,r⟩:=hm
 exact ⟨o,es,ep,k _ o ho,r⟩
theorem yp {xs:List V} (I:Inv X pins σ H s):∀ {k:SK},SqK X.K H a k xs->∃ its:List Value,Vals xs its/\SeqK s.heap a k its.toArray
 | .l,h=>let ⟨its,r,p,_⟩:=I.list h; ⟨its,r,p.isList⟩
 | .t,h=>let ⟨its,r,p,_⟩:=I.tuple h; ⟨its,r,p⟩
end
noncomputable def Itz (K:Frag) (a1 a2:Addr) (k1 k2:SK) (xs ys:List V):It:=
 ⟨fun i H=>i < xs.length/\i < ys.length/\SqK K H a1 k1 xs/\SqK K H a2 k2 ys,fun i H v H'=>∃ x y p,xs[i]?=some x/\ys[i]?=some y/\H p=none/\v=.ref p/\H'=upd H p (.tup [x,y]),fun i H=>(xs.length<=i\/ys.length<=i)/\SqK K H a1 k1 xs/\SqK K H a2 k2 ys⟩
theorem JA {xs:List V} {us:List Value} (r:Vals xs us) (h:us[i]?=some u):∃ x,xs[i]?=some x/\RelV x u:=by
 have hi:i < us.length:=(aE.mp h).1
 have hx:i < xs.length:=by rw [r.length]; exact hi
 obtain ⟨u',h1,h2⟩:=r.get (aJ hx)
 rw [h] at h1
 cases h1
 exact ⟨xs[i],aJ hx,h2⟩
theorem JB (b a1 a2:Nat) (h1:a1 < b) (h2:a2 < b):Apart2 (b+4) (b+2) (b+3) b (b+1) [b,a1] [b+1,a2]:=by
 have ne:∀ x y:Nat,x≠y->x≠y:=fun _ _ h=>h
 have nin:∀ x a c:Nat,x≠a->x≠c->x∉[a,c]:=fun x a c n1 n2 h=>(ac.mp h).elim n1 fun h=>n2 (aC.mp h)
 exact ⟨ne _ _ (by omega),ne _ _ (by omega),ne _ _ (by omega),ne _ _ (by omega),ne _ _ (by omega),ne _ _ (by omega),ne _ _ (by omega),ne _ _ (by omega),ne _ _ (by omega),ne _ _ (by omega),nin _ _ _ (by omega) (by omega),nin _ _ _ (by omega) (by omega),nin _ _ _ (by omega) (by omega),nin _ _ _ (by omega) (by omega),nin _ _ _ (by omega) (by omega),nin _ _ _ (by omega) (by omega)⟩
theorem Gz {P:Program} {w:World} {K:Frag} {elts:List Expr} {x1} {pos:Pos} {k1 k2:SK} (b a1 a2:Nat) (xs ys:List V) (h1:a1 < b) (h2:a2 < b) :
  Turn P w K (.Tuple elts x1 pos) (Itz K a1 a2 k1 k2 xs ys) [b+4,b+2,b+3,b,b+1] (b+4)
   (fun i h=>IsZip h (b+4) (b+2) (b+3) .none/\IsPair h (b+2) (.ref b) (.ref (b+1))/\(∃ a c,IsPair h (b+3) a c)/\ItK h b a1 k1 i/\ItK h (b+1) a2 k2 i/\i<=xs.length/\i<=ys.length) where
 mem:=by simp
 obj:=fun i h st c hc=>by
  obtain ⟨hz,hi,⟨a,c',ho⟩,t1,t2,_⟩:=st
  simp only [ac,bo,or_false] at hc
  rcases hc with rfl | rfl | rfl | rfl | rfl
  ·exact ⟨_,hz,fun v z=>by cases z⟩
  ·exact ⟨_,hi,fun v z=>by cases z⟩
  ·exact ⟨_,ho,fun v z=>by cases z⟩
  ·obtain ⟨o,e,_,d⟩:=t1.obj
   exact ⟨o,e,fun v z=>by rw [d] at z; cases z⟩
  ·obtain ⟨o,e,_,d⟩:=t2.obj
   exact ⟨o,e,fun v z=>by rw [d] at z; cases z⟩
 keep:=fun i h h' st k=>by
  obtain ⟨hz,hi,⟨a,c',ho⟩,t1,t2,n⟩:=st
  refine ⟨k _ (by simp) _ hz,k _ (by simp) _ hi,⟨a,c',k _ (by simp) _ ho⟩,?_,?_,n⟩
  ·obtain ⟨o,e,c,d⟩:=t1.obj
   exact .of ⟨o,k _ (by simp) _ e,c,d⟩
  ·obtain ⟨o,e,c,d⟩:=t2.obj
   exact .of ⟨o,k _ (by simp) _ e,c,d⟩
 item:=by
  intro X hP hw hK hc i pins s σ H E I hf st hg
  subst hP hw hK
  obtain ⟨hz,hTI,⟨oa,ob,hTO⟩,t1,t2,n1,n2⟩:=st
  obtain ⟨l1,l2,q1,q2⟩:=hg
  obtain ⟨is1,r1,p1⟩:=yp I q1
  obtain ⟨is2,r2,p2⟩:=yp I q2
  have e1:is1.toArray.size=xs.length:=by rw [ak,r1.length]
  have e2:is2.toArray.size=ys.length:=by rw [ak,r2.length]
  have D:=JB b a1 a2 h1 h2
  have hh:X.A.in1.handled=none:=I.ok.hd hc
  refine KJ (A:=X.A) D (Wq (prog:=X.prog) (w:=X.w) (A:=X.A.in1) hh k1 b a1 (ay h1) is1.toArray) (Wq (prog:=X.prog) (w:=X.w) (A:=X.A.in1) hh k2 (b+1) a2 (ay (dg h2)) is2.toArray) hz hTI hTO ⟨t1,p1⟩ ⟨t2,p2⟩ (by rw [e1]; exact l1) (by rw [e2]; exact l2) fun u v h' tk hu hv z' to' s1 s2 tp kp=>?_
  refine ⟨_,rfl,wpAny_letOwnedTupleGo_zip z' fun hq z2 sb2=>?_⟩
  obtain ⟨x,hx,rx⟩:=JA r1 (by simpa using hu)
  obtain ⟨y,hy,ry⟩:=JA r2 (by simpa using hv)
  have hT:H s.heap.objs.size=none:=I.hok.fresh (ax _)
  have lt4:b+4 < s.heap.objs.size:=ap hz
  have fT:∀ c∈[b+4,b+2,b+3,b,b+1],c≠s.heap.objs.size:=fun c hc=>by
   simp only [ac,bo,or_false] at hc
   have lt4':b+4 < s.heap.objs.size:=lt4
   generalize s.heap.objs.size=m at lt4'
   intro z
   omega
  have I1:Inv X pins σ (upd H s.heap.objs.size (.tup [x,y])) { s with heap:=s.heap.push { cls:=.type "tuple",data:=.seq #[u,v] } }:=
   I.laid (t':=s.toks) (fun _ _ e=>aa _ e) (ax _) ⟨⟨by simp only [ae,aq]; rw [sizeLine_eq]; decide,_,ag _ rfl,rfl⟩,[u,v],.cons rx (.cons ry .nil),⟨_,ag _ rfl,rfl,_,rfl⟩⟩
  have I2:Inv X pins σ (upd H s.heap.objs.size (.tup [x,y])) { s with heap:=hq,toks:=tk }:=by
   refine Xa (s:={ s with heap:=s.heap.push { cls:=.type "tuple",data:=.seq #[u,v] } }) (ch:=[b+4,b+2,b+3,b,b+1]) I1 (fun c o nc e=>?_) fun c hc=>⟨by rw [qr (fT c hc)]; exact (hf c hc).1,(hf c hc).2⟩
   simp only [ac,bo,or_false,not_or] at nc
   rw [sb2.2 c nc.1]
   by_cases ec:c=s.heap.objs.size
   ·subst ec
    have e3:(s.heap.push ({ cls:=.type "tuple",data:=.seq #[u,v] }:Obj)).get? s.heap.objs.size=some { cls:=.type "tuple",data:=.seq #[u,v] }:=ag _ rfl
    rw [show (s.heap.push ({ cls:=.type "tuple",data:=.seq #[u,v] }:Obj)).get? s.heap.objs.size=some o from e] at e3
    rw [e3]
    exact tp
   ·have e4:s.heap.get? c=some o:=by
     have:=e
     rwa [show (s.heap.push ({ cls:=.type "tuple",data:=.seq #[u,v] }:Obj)).get? c=s.heap.get? c from Heap.get?_push_ne _ _ _ ec] at this
    exact kp c o nc.1 nc.2.2.1 nc.2.2.2.1 nc.2.2.2.2 e4
  refine ⟨.ref s.heap.objs.size,_,I2,rfl,⟨x,y,_,hx,hy,hT,rfl,rfl⟩,⟨z2,?_,⟨u,v,?_⟩,?_,?_,l1,l2⟩,fun c hc=>by rw [qr (fT c hc)]; exact (hf c hc).1⟩
  ·exact (sb2.2 _ D.TIz).trans (kp _ _ D.TIz D.TITO D.TIi1 D.TIi2 hTI)
  ·exact (sb2.2 _ D.TOz).trans to'
  ·obtain ⟨o,e,c,d⟩:=s1.1.obj
   exact .of ⟨o,(sb2.2 _ D.i1z).trans e,c,d⟩
  ·obtain ⟨o,e,c,d⟩:=s2.1.obj
   exact .of ⟨o,(sb2.2 _ D.i2z).trans e,c,d⟩
 done:=by
  intro X hP hw hK hc i pins s σ H E I hf st hg
  subst hP hw hK
  obtain ⟨hz,hTI,⟨oa,ob,hTO⟩,t1,t2,n1,n2⟩:=st
  obtain ⟨l1,q1,q2⟩:=hg
  obtain ⟨is1,r1,p1⟩:=yp I q1
  obtain ⟨is2,r2,p2⟩:=yp I q2
  have e1:is1.toArray.size=xs.length:=by rw [ak,r1.length]
  have e2:is2.toArray.size=ys.length:=by rw [ak,r2.length]
  have D:=JB b a1 a2 h1 h2
  have hh:X.A.in1.handled=none:=I.ok.hd hc
  refine Um (A:=X.A) D (Wq (prog:=X.prog) (w:=X.w) (A:=X.A.in1) hh k1 b a1 (ay h1) is1.toArray) (Wq (prog:=X.prog) (w:=X.w) (A:=X.A.in1) hh k2 (b+1) a2 (ay (dg h2)) is2.toArray) hz hTI hTO ⟨t1,p1⟩ ⟨t2,p2⟩ (by rw [e1,e2]; omega) fun h' tk kp=>⟨rfl,Xa (ch:=[b+4,b+2,b+3,b,b+1]) I (fun c o nc e=>?_) hf⟩
  simp only [ac,bo,or_false,not_or] at nc
  exact kp c o nc.1 nc.2.2.1 nc.2.2.2.1 nc.2.2.2.2 e
 self:=fun _ _ _ _ _ st h=>wpAny_pyIter_zip st.1 h
theorem Xb:bootBuiltins "zip"=some (.type "zip"):=by decide +kernel
variable {own:List Nat} {fa:Sl->Out (D×Sl)} {ma:Mo} {pos:Pos} {ds:List D}
section
variable {a c:Expr} {fb:Sl->Out (D×Sl)} {mb:Mo}
theorem qdD {ta:TA} {p tpos:Pos} {elts:List Expr} {x1} (hg:Gl X "zip") (hm:X.mg "zip"=none) (ha:PA X [a,c] ta) (hs:starEach [a,c] X.env=[(false,eval a X.env),(false,eval c X.env)]) (hs2:starEach [c] X.env=[(false,eval c X.env)]) :
  PI X (.Tuple elts x1 tpos) (.Call (.Name "zip" p) [a,c] [] pos) (fun σ H R=>ta σ H fun vs H1=>∃ a1 a2 k1 k2 xs ys,vs=[.ref a1,.ref a2]/\SqK X.K H1 a1 k1 xs/\SqK X.K H1 a2 k2 ys/\R (Itz X.K a1 a2 k1 k2 xs ys) H1):=by
 refine ⟨?_⟩
 intro pins s σ H R I h
 refine Call_ (QO I hg hm Xb (db (thn (ha pos pins s σ H _ I h) fun us s1 ⟨vs,H1,I1,r1,q1⟩=>?_) (by rw [hs,hs2]) (by rw [hs2]; rfl)))
 obtain ⟨a1,a2,k1,k2,xs,ys,rfl,w1,w2,q⟩:=q1
 obtain ⟨u1,u2,rfl,e1,e2⟩:=ZH r1
 cases e1
 cases e2
 obtain ⟨is1,v1,p1⟩:=yp I1 w1
 obtain ⟨is2,v2,p2⟩:=yp I1 w2
 refine YZ p1 p2 fun h' hz hTI hTO t1 t2 kp=>?_
 refine wpAny_pyIter_zip hz ?_
 refine ⟨s1.heap.objs.size+4,_,_,Itz X.K a1 a2 k1 k2 xs ys,H1,rfl,I1.kept (t':=s1.toks) kp,Gz s1.heap.objs.size a1 a2 xs ys p1.lt p2.lt,⟨hz,hTI,⟨_,_,hTO⟩,t1,t2,bt _,bt _⟩,fun b hb=>?_,q⟩
 have hle:s1.heap.objs.size<=b:=by
  simp only [ac,bo,or_false] at hb
  rcases hb with rfl | rfl | rfl | rfl | rfl
  ·exact eD _ _
  ·exact eD _ _
  ·exact eD _ _
  ·exact ax _
  ·exact eD _ _
 exact I1.fpOk hle (I1.hok.fresh hle)
theorem PoI.bindA {as:List AK} {o:Out (List D×Sl)} {k:List D×Sl->Out (List D×Sl)} {R:It->Hp->Prop} {Q:List V->Hp->Prop} (hp:PoI C own σ F H (o.bind k) R)
  (h:∀ vs F1 H1 ds ρ1,Rep C.K own F1 H1 σ ρ1->Chg (OA own σ) F H F1 H1->ArgV C.K H F1 H1 σ as vs ds->PoI C own σ F H (k (ds,ρ1)) R->Q vs H1):PoA C own as σ F H o Q:=by
 cases o with
 | ok p=>
  obtain ⟨ds,ρ1⟩:=p
  exact fun vs F1 H1 rp c av=>h vs F1 H1 ds ρ1 rp c av hp
 | exc e=>exact hp
 | bad=>exact hp.elim
noncomputable def qaM (xs ys:List D):List D:=List.zipWith (fun x y=>.tup [x,y]) xs ys
noncomputable def qfe (fr:Sl->Out (List D×Sl)):Sl->Out (List D×Sl):=fun ρ=>(fr ρ).bind fun p=>match p.1 with
 | [x,y]=>(zN x).bind fun xs=>(zN y).bind fun ys=>.ok (qaM xs ys,p.2)
 | _=>.bad
theorem qaN (h:Is K F v d) (e:zN d=.ok ds):∃ a k xs,v=.ref a/\(∀ H,Same F H->SqK K H a k xs)/\IsL K F xs ds:=by
 cases h with
 | @lst a xs ds' p t=>
  cases e
  exact ⟨_,.l,_,rfl,fun H s=>s.seq p,t⟩
 | @tup a xs ds' p t=>
  cases e
  exact ⟨_,.t,_,rfl,fun H s=>qD s p,t⟩
 | _=>cases e
theorem qdE {a1 a2:Addr} {k1 k2:SK} {xs ys:List V} {es:List D} (p1:∀ H,Same F H->SqK K H a1 k1 xs) (p2:∀ H,Same F H->SqK K H a2 k2 ys) (t1:IsL K F xs ds) (t2:IsL K F ys es):ItIs K F (Itz K a1 a2 k1 k2 xs ys) (qaM ds es) where
 go:=fun i H hi s=>by
  unfold qaM at hi
  rw [List.length_zipWith] at hi
  exact ⟨by rw [t1.length]; omega,by rw [t2.length]; omega,p1 H s,p2 H s⟩
 yld:=fun i Fi H v H' d e s1 s2 y=>by
  obtain ⟨x,y,p,hx,hy,hn,rfl,rfl⟩:=y
  obtain ⟨d1,e1,i1⟩:=t1.get hx
  obtain ⟨d2,e2,i2⟩:=t2.get hy
  have ed:d=.tup [d1,d2]:=by
   unfold qaM at e
   rw [List.getElem?_zipWith,e1,e2] at e
   exact (br.inj e).symm
  subst ed
  obtain ⟨g1,g2⟩:=uB (u:=.tup [x,y]) s2 hn
  exact ⟨_,g2,g1,.tup (.of qm) (.cons ((i1.mono s1).mono g2.grow) (.cons ((i2.mono s1).mono g2.grow) .nil))⟩
 stop:=fun i H hi s=>by
  unfold qaM at hi
  rw [List.length_zipWith] at hi
  exact ⟨by rw [t1.length,t2.length]; omega,p1 H s,p2 H s⟩
theorem qbV {p tpos:Pos} {elts:List Expr} {x1} (hK:C.K=X.K) (hg:Gl X "zip") (hm:X.mg "zip"=none) (ha:PE X a (tE C own ma fa)) (hb:PE X c (tE C own mb fb)) (h1:ma≠.any:=by decide) (h2:mb≠.any:=by decide) (hs:starEach [a,c] X.env=[(false,eval a X.env),(false,eval c X.env)]:=by exact ZT rfl rfl) (hs2:starEach [c] X.env=[(false,eval c X.env)]:=by exact qO rfl) :
  PI X (.Tuple elts x1 tpos) (.Call (.Name "zip" p) [a,c] [] pos) (tIt C own (qfe (qe fa (qe fb qF)))):=by
 refine qbJ (qdD hg hm (qc ha (qc hb ql h2 (by rw [hs2]; rfl)) h1 (by rw [hs,hs2])) hs hs2) fun σ H R ⟨F,ρ,rp,h⟩=>⟨F,ρ,rp,PoI.bindA h fun vs F1 H1 ds ρ1 rp1 c1 av h1=>?_⟩
 have il:=ArgV.isL (by decide) av
 cases il with
 | nil=>exact h1.elim
 | @cons v d vs ds i1 il=>
  cases il with
  | nil=>exact h1.elim
  | @cons v2 d2 vs ds i2 il=>
   cases il with
   | cons=>exact h1.elim
   | nil=>
    have h1:PoI C own σ F H ((zN d).bind fun xs=>(zN d2).bind fun ys=>.ok (qaM xs ys,ρ1)) R:=h1
    cases e1:zN d with
    | bad=>rw [e1] at h1; exact h1.elim
    | exc c=>cases d <;> cases e1
    | ok xs=>
     cases e2:zN d2 with
     | bad=>rw [e1,e2] at h1; exact h1.elim
     | exc c=>cases d2 <;> cases e2
     | ok ys=>
      rw [e1,e2] at h1
      obtain ⟨a1,k1,ws,rfl,p1,t1⟩:=qaN i1 e1
      obtain ⟨a2,k2,ws2,rfl,p2,t2⟩:=qaN i2 e2
      refine ⟨a1,a2,k1,k2,ws,ws2,rfl,hK ▸ p1 H1 rp1.sub,hK ▸ p2 H1 rp1.sub,?_⟩
      rw [<-hK]
      exact h1 _ F1 H1 rp1 c1 (qdE p1 p2 t1 t2)
end
def leS (x y:Str):Prop:=¬y.cps.toList < x.cps.toList
noncomputable def qcG (x:Str):List Str->List Str
 | []=>[x]
 | y::l=>if vh y x=true then y::qcG x l else x::y::l
noncomputable def ke:List Str->List Str
 | []=>[]
 | x::l=>qcG x (ke l)
theorem xY {z:Str} (a:leS x y) (b:leS y z):leS x z:=List.le_trans (α:=Nat) a b
theorem Xc (x y:Str):leS x y\/leS y x:=List.le_total (α:=Nat) x.cps.toList y.cps.toList
theorem gU (a:leS x y) (b:leS y x):x=y:=by
 have e:=List.le_antisymm (α:=Nat) (as:=x.cps.toList) (bs:=y.cps.toList) a b
 obtain ⟨⟨l⟩⟩:=x
 obtain ⟨⟨m⟩⟩:=y
 simp at e
 rw [e]
theorem strLt_false:vh y x=false↔leS x y:=by
 unfold vh leS
 exact decide_eq_false_iff_not
theorem xZ (x:Str):∀ l,(qcG x l).Perm (x::l)
 | []=>cq _
 | y::l=>by
  unfold qcG
  split
  ·exact ((xZ x l).cons y).trans (List.Perm.swap _ _ _)
  ·exact cq _
theorem qK:∀ l,(ke l).Perm l
 | []=>cq _
 | x::l=>(xZ x _).trans ((qK l).cons x)
theorem zc (x:Str):∀ l,l.Pairwise leS->(qcG x l).Pairwise leS
 | [],_=>dW _ _
 | y::l,h=>by
  have h0:=bG.mp h
  unfold qcG
  split
  ·rename_i hlt
   have hyx:leS y x:=by
    rcases Xc y x with q | q
    ·exact q
    ·rw [<-strLt_false] at q
     rw [q] at hlt
     cases hlt
   refine bG.mpr ⟨fun z hz=>?_,zc x l h0.2⟩
   rcases ac.mp ((xZ x l).mem_iff.mp hz) with rfl | hz
   ·exact hyx
   ·exact h0.1 z hz
  ·rename_i hlt
   have hxy:leS x y:=strLt_false.mp (by cases e:vh y x with | true=>exact absurd e hlt | false=>rfl)
   refine bG.mpr ⟨fun z hz=>?_,h⟩
   rcases ac.mp hz with rfl | hz
   ·exact hxy
   ·exact xY hxy (h0.1 z hz)
theorem je:∀ l,(ke l).Pairwise leS
 | []=>d8
 | x::l=>zc x _ (je l)
theorem wF:∀ {l m:List Str},l.Perm m->l.Pairwise leS->m.Pairwise leS->l=m
 | [],m,p,_,_=>p.nil_eq
 | x::l,[],p,_,_=>absurd p.length_eq (by simp)
 | x::l,y::m,p,hl,hm=>by
  have a:=bG.mp hl
  have b:=bG.mp hm
  have exy:x=y:=by
   have h1:y∈x::l:=p.mem_iff.mpr (aw ..)
   have h2:x∈y::m:=p.mem_iff.mp (aw ..)
   rcases ac.mp h1 with e | e
   ·exact e.symm
   ·rcases ac.mp h2 with e' | e'
    ·exact e'
    ·exact gU (a.1 y e) (b.1 x e')
  subst exy
  rw [wF p.cons_inv a.2 b.2]
theorem gp:∀ (x:Str) (l:List Str),risingS x l=true->(x::l).Pairwise leS
 | x,[],_=>dW _ _
 | x,y::l,h=>by
  have h:(!ltCps y.cps.toList x.cps.toList&&risingS y l)=true:=h
  rw [aP] at h
  have ih:=gp y l h.2
  have hxy:leS x y:=by
   have h1:=h.1
   rw [ltCps_eq] at h1
   unfold leS
   simpa using h1
  refine bG.mpr ⟨fun z hz=>?_,ih⟩
  rcases ac.mp hz with rfl | hz
  ·exact hxy
  ·exact xY hxy ((bG.mp ih).1 z hz)
theorem KK:∀ (l:List Str),sortedS l=true->l.Pairwise leS
 | [],_=>d8
 | x::l,h=>gp x l h
theorem Xd (p:ss.Perm ks) (h:sortedS ss=true):ss=ke ks:=wF (p.trans (qK ks).symm) (KK ss h) (je ks)
noncomputable def zd:List D->Option (List Str)
 | []=>some []
 | .str x::l=>(zd l).map (x::·)
 | _::_=>none
noncomputable def ut:D->Option (List Str)
 | .lst ds=>zd ds
 | .tup ds=>zd ds
 | _=>none
noncomputable def qcH (P:Program) (w:World) (p:Addr) (ks:List Str):HO:=.ext fun h=>SetS P w h p ks
theorem qbW (x:SetS P w h p ks):ObjOk P w H h p (qcH P w p ks):=
 ⟨x,let ⟨_,_,_,e,_⟩:=x; ⟨_,e⟩,fun _ _ a k=>a.at k⟩
theorem gW:∀ {vs:List V} {us:List Value} {ds:List D} {ss:List Str},IsL K F vs ds->Vals vs us->zd ds=some ss->StrsAre us ss/\∀ x∈ss,x.length<=sizeLine
 | [],[],[],ss,_,_,e=>by cases e; exact ⟨.nil,fun x h=>by cases h⟩
 | v::vs,u::us,d::ds,ss,.cons i il,.cons r rl,e=>by
  cases d with
  | str x=>
   cases q:zd ds with
   | none=>
    have e:(zd ds).map (x::·)=some ss:=e
    rw [q] at e
    cases e
   | some sl=>
    have e:(zd ds).map (x::·)=some ss:=e
    rw [q] at e
    cases e
    cases i with
    | str hz=>
     obtain ⟨t,rfl⟩:=r
     have ih:=gW il rl q
     refine ⟨.cons x t ih.1,fun y hy=>?_⟩
     rcases ac.mp hy with rfl | hy
     ·exact hz
     ·exact ih.2 y hy
  | _=>cases e
variable {f:Sl->Out (D×Sl)}
section
variable {e:Expr}
theorem JC:∀ (l ks:List Str) {x:Str},x∈l.foldl jU ks->x∈ks\/x∈l
 | [],ks,x,h=>.inl h
 | y::l,ks,x,h=>by
  rcases JC l (jU ks y) h with q | q
  ·unfold jU at q
   split at q
   ·exact .inl q
   ·rcases bc.mp q with q | q
    ·exact .inl q
    ·exact .inr (by rw [aC.mp q]; exact aw ..)
  ·exact .inr (af _ q)
theorem qaO (hK:C.K=X.K) (hc:X.calm=true):um X (.type "set") (fun xs H Q=>∃ x F dx ss,xs=[x]/\Same F H/\TopIs C.K F H x dx/\ut dx=some ss/\ss.length < 4000/\((∀ y∈ss,y.length<=sizeLine)->∀ p,H p=none->Q (.ref p) (upd H p (qcH X.prog X.w p (ss.foldl jU []))))):=by
 intro pins s σ H xs us Q I r h
 obtain ⟨x,F,dx,ss,rfl,sb,tx,es,hl,q⟩:=h
 obtain ⟨u,rfl,ru⟩:=xc r
 have fin:(∀ y∈ss,y.length<=sizeLine)->∀ h' tk,SetS X.prog X.w h' s.heap.objs.size (ss.foldl jU [])->(∀ b o,s.heap.get? b=some o->h'.get? b=some o)->EP X pins σ Q (.ref s.heap.objs.size) { s with heap:=h',toks:=tk }:=fun hy h' tk hS kp=>
  ⟨.ref s.heap.objs.size,_,I.laid (t':=tk) kp (ax _) (qbW hS),rfl,q hy _ (I.hok.fresh (ax _))⟩
 cases dx with
 | lst ds=>
  obtain ⟨a,vs,rfl,hq,il⟩:=tx.lst sb
  cases ru
  rw [hK] at hq
  obtain ⟨its,rv,pl,hz⟩:=I.list hq
  obtain ⟨st,hy⟩:=gW il rv es
  have hlt:a < s.heap.objs.size:=let ⟨o,_,e,_⟩:=pl; ap e
  have hn:its.length=ss.length:=st.length
  refine Jt (fun A1 Q1 E1 hA k=>?_) (fin hy)
  refine Gu (items:=its.toArray) (hA.trans (I.ok.hd hc)) (Js (ag _ rfl)) (pl.isList.push _) (by simpa using st) (by rw [ak,hn]; unfold scanBound; omega) (ay hlt) fun h' tk hS kp=>k h' tk hS fun b o eb=>kp b o (ay (ap eb)) (aa _ eb)
 | tup ds=>
  obtain ⟨a,vs,rfl,hq,il⟩:=tx.tup sb
  cases ru
  rw [hK] at hq
  obtain ⟨its,rv,pl,hz⟩:=I.tuple hq
  obtain ⟨st,hy⟩:=gW il rv es
  have hlt:a < s.heap.objs.size:=pl.lt
  have hn:its.length=ss.length:=st.length
  refine Jt (fun A1 Q1 E1 hA k=>?_) (fin hy)
  refine YS (items:=its.toArray) (hA.trans (I.ok.hd hc)) (Js (ag _ rfl)) (by obtain ⟨o,e,c⟩:=pl; exact ⟨o,aa _ e,c⟩) (by simpa using st) (by rw [ak,hn]; unfold scanBound; omega) (ay hlt) fun h' tk hS kp=>k h' tk hS fun b o eb=>kp b o (ay (ap eb)) (aa _ eb)
 | _=>cases es
theorem JD:∀ {us:List Value} {ss:List Str},StrsAre us ss->Vals (ss.map V.str) us
 | _,_,.nil=>.nil
 | _,_,.cons y t h=>.cons ⟨t,rfl⟩ (JD h)
theorem Xe (hc:X.calm=true):um X (.builtin "sorted") (fun xs H Q=>∃ a ks,xs=[.ref a]/\H a=some (qcH X.prog X.w a ks)/\ks.length < 64/\∀ p,H p=none->Q (.ref p) (upd H p (.lst ((ke ks).map V.str)))):=by
 intro pins s σ H xs us Q I r h
 obtain ⟨a,ks,rfl,ha,h64,q⟩:=h
 obtain ⟨u,rfl,ru⟩:=xc r
 cases ru
 have hS:SetS X.prog X.w s.heap a ks:=(I.hok a _ ha).1
 refine Ul (I.ok.hd hc) hS h64 fun h1 h' dr tk vs e ss k1 k2 hp st pm so=>?_
 rw [Xd pm so] at st
 have I1:Inv X pins σ H { s with heap:=h1,drawn:=dr,toks:=tk }:=qgm I k1
 have hz:(ke ks).length<=sizeLine:=by
  rw [(qK ks).length_eq,sizeLine_eq]
  omega
 refine ⟨.ref h1.objs.size,_,I1.laid (t':=tk) (o:=.lst ((ke ks).map V.str)) k2 (ax _) ⟨by rw [aG]; exact hz,vs.toList,e,JD st,by simpa [seqObj] using hp⟩,rfl,q _ (I1.hok.fresh (ax _))⟩
theorem qbX:um X (.builtin "len") (fun xs H Q=>∃ a ks,xs=[.ref a]/\H a=some (qcH X.prog X.w a ks)/\Q (.int ks.length) H):=by
 intro pins s σ H xs us Q I r h
 obtain ⟨a,ks,rfl,ha,q⟩:=h
 obtain ⟨u,rfl,ru⟩:=xc r
 cases ru
 obtain ⟨es,ep,t,ho,d⟩:SetS X.prog X.w s.heap a ks:=(I.hok a _ ha).1
 have hb:=d.bd
 refine call_len_set ho ⟨rfl,rfl,rfl⟩ rfl d.fits (by unfold scanBound at hb; omega) ?_
 exact ⟨.int ks.length,H,I.tok _,⟨_,by rw [d.size]⟩,q⟩
theorem gX {m:Mo} {Q R:VK} (h:tE C own m f σ H Q) (i:∀ v H1,Q v H1->R v H1):tE C own m f σ H R:=by
 obtain ⟨F,ρ,rp,po⟩:=h
 refine ⟨F,ρ,rp,?_⟩
 cases q:f ρ with
 | ok p=>
  rw [q] at po
  obtain ⟨d,ρ1⟩:=p
  exact fun v F1 H1 a b c=>i _ _ (po v F1 H1 a b c)
 | exc c ρ1=>
  rw [q] at po
  exact po
 | bad=>
  rw [q] at po
  exact po.elim
noncomputable def jX (d:D):Out D:=match ut d with
 | some ss=>if ss.length < 64 then .ok (.lst ((ke (ss.foldl jU [])).map D.str)) else .bad
 | none=>.bad
noncomputable def gY (d:D):Out D:=match ut d with
 | some ss=>if ss.length < 4000 then .ok (.int (ss.foldl jU []).length) else .bad
 | none=>.bad
theorem Wr:∀ {ss:List Str},(∀ x∈ss,x.length<=sizeLine)->IsL K F (ss.map V.str) (ss.map D.str)
 | [],_=>.nil
 | x::l,h=>.cons (.str (h x (aw ..))) (Wr fun y hy=>h y (af _ hy))
theorem ud {p p2 pos2:Pos} (hK:C.K=X.K) (hc:X.calm=true) (hg:Gl X "sorted") (hm:X.mg "sorted"=none) (hv:bootBuiltins "sorted"=some (.builtin "sorted")) (hg2:Gl X "set") (hm2:X.mg "set"=none) (hv2:bootBuiltins "set"=some (.type "set")) (ha:PE X e (tE C own ma fa))
  (he:starEach [e] X.env=[(false,eval e X.env)]:=by exact qO rfl) (he2:starEach [.Call (.Name "set" p2) [e] [] pos2] X.env=[(false,eval (.Call (.Name "set" p2) [e] [] pos2) X.env)]:=by exact qO rfl) :
  PE X (.Call (.Name "sorted" p) [.Call (.Name "set" p2) [e] [] pos2] [] pos) (tE C own .fr (d1 jX fa)):=by
 refine jd (wW (Xe hc) hg hm hv (qV (uK (qaO hK hc) hg2 hm2 hv2 (qV ha jZ he) (by decide) (by decide) (by rw [he]; rfl) rfl) jZ he2) (by decide) (by decide) (by rw [he2]; rfl) rfl) fun σ H Q h=>?_
 refine gX (xN (ma:=ma) h) fun x H1 ⟨x',F,dx,ex,sb,tx,po⟩=>?_
 cases ex
 unfold jX at po
 cases es:ut dx with
 | none=>
  rw [es] at po
  exact po.elim
 | some ss=>
  rw [es] at po
  by_cases hl:ss.length < 64
  ·have po:PoV C .fr F H1 (if ss.length < 64 then .ok (.lst ((ke (ss.foldl jU [])).map D.str)) else .bad) Q:=po
   rw [if_pos hl] at po
   refine ⟨x,F,dx,ss,rfl,sb,tx,es,by omega,fun hy q hq=>⟨q,_,rfl,qm,?_,fun l hl2=>?_⟩⟩
   ·have:=vM ss []
    rw [aq] at this
    omega
   ·obtain ⟨s1,c1,f1⟩:=wy (u:=qcH X.prog X.w q (ss.foldl jU [])) sb hq
    obtain ⟨s2,c2,f2⟩:=wy (u:=.lst ((ke (ss.foldl jU [])).map V.str)) s1 hl2
    have hl1:H1 l=none:=by
     by_cases z:l=q
     ·rw [z] at hl2
      rw [qm] at hl2
      cases hl2
     ·rwa [qr z] at hl2
    refine po _ _ _ s2 (c1.trans' c2) ⟨l,rfl,hl1,f2,_,qm,Wr fun y hy2=>hy y ?_⟩
    rcases JC ss [] ((qK _).mem_iff.mp hy2) with z | z
    ·cases z
    ·exact z
  ·have po:PoV C .fr F H1 (if ss.length < 64 then .ok (.lst ((ke (ss.foldl jU [])).map D.str)) else .bad) Q:=po
   rw [if_neg hl] at po
   exact po.elim
theorem Xf {p p2 pos2:Pos} (hK:C.K=X.K) (hc:X.calm=true) (hg:Gl X "len") (hm:X.mg "len"=none) (hv:bootBuiltins "len"=some (.builtin "len")) (hg2:Gl X "set") (hm2:X.mg "set"=none) (hv2:bootBuiltins "set"=some (.type "set")) (ha:PE X e (tE C own ma fa))
  (he:starEach [e] X.env=[(false,eval e X.env)]:=by exact qO rfl) (he2:starEach [.Call (.Name "set" p2) [e] [] pos2] X.env=[(false,eval (.Call (.Name "set" p2) [e] [] pos2) X.env)]:=by exact qO rfl) :
  PE X (.Call (.Name "len" p) [.Call (.Name "set" p2) [e] [] pos2] [] pos) (tE C own .sh (d1 gY fa)):=by
 refine jd (wW qbX hg hm hv (qV (uK (qaO hK hc) hg2 hm2 hv2 (qV ha jZ he) (by decide) (by decide) (by rw [he]; rfl) rfl) jZ he2) (by decide) (by decide) (by rw [he2]; rfl) rfl) fun σ H Q h=>?_
 refine gX (xN (ma:=ma) h) fun x H1 ⟨x',F,dx,ex,sb,tx,po⟩=>?_
 cases ex
 unfold gY at po
 cases es:ut dx with
 | none=>
  rw [es] at po
  exact po.elim
 | some ss=>
  rw [es] at po
  have po:PoV C .sh F H1 (if ss.length < 4000 then .ok (.int (ss.foldl jU []).length) else .bad) Q:=po
  by_cases hl:ss.length < 4000
  ·rw [if_pos hl] at po
   refine ⟨x,F,dx,ss,rfl,sb,tx,es,hl,fun hy q hq=>⟨q,_,rfl,qm,?_⟩⟩
   obtain ⟨s1,c1,f1⟩:=wy (u:=qcH X.prog X.w q (ss.foldl jU [])) sb hq
   exact po _ _ _ s1 c1 (.int _)
  ·rw [if_neg hl] at po
   exact po.elim
end
variable {β:Type}
@[simp] theorem qG {a:α} {k:α->Out β}:(Out.ok a).bind k=k a:=rfl
@[simp] theorem qfO {c:Str} {o:Sl} {k:α->Out β}:(Out.exc c o:Out α).bind k=.exc c o:=rfl
@[simp] theorem qfP {k:α->Out β}:(Out.bad:Out α).bind k=.bad:=rfl
@[simp] theorem jH {a:α}:(Out.ok a).plain=.ok a:=rfl
@[simp] theorem qfQ:(Out.bad:Out α).plain=.bad:=rfl
variable {c:Prop}
@[simp] theorem qfR [Decidable c] {a b:Out α} {k:α->Out β}:(if c then a else b).bind k=if c then a.bind k else b.bind k:=by split <;> rfl
@[simp] theorem qfS [Decidable c] {a b:Out α}:(if c then a else b).plain=if c then a.plain else b.plain:=by split <;> rfl
noncomputable def Xg (d:D) (A B:Out α):Out α:=match d with
 | .bl b=>if b=true then A else B
 | _=>.bad
@[simp] theorem qeC {A B:Out α}:Xg (.bl b) A B=if b=true then A else B:=rfl
noncomputable def KL (p:D×Sl):Out (Bool×Sl):=match p.1 with
 | .bl b=>.ok (b,p.2)
 | _=>.bad
variable {ρ:Sl}
@[simp] theorem qff:KL (.bl b,ρ)=.ok (b,ρ):=rfl
noncomputable def Zu (ms:List PM):Out (Fl×Sl)->Out (D×List D)
 | .ok (.nx,ρ)=>.ok (.non,qB ρ 0 ms)
 | .ok (.rt d,ρ)=>.ok (d,qB ρ 0 ms)
 | .ok _=>.bad
 | .exc c ρ=>.exc c ((qB ρ 0 ms).map some)
 | .bad=>.bad
variable {ms:List PM}
theorem runD_ap {f:Sl->Out (Fl×Sl)}:vE N ms f ds=Zu ms (f (qv N ds)):=by
 unfold vE Zu
 rfl
@[simp] theorem qfT:Zu ms (.ok (.rt d,ρ))=.ok (d,qB ρ 0 ms):=rfl
@[simp] theorem qfU:Zu ms (.ok (.nx,ρ))=.ok (.non,qB ρ 0 ms):=rfl
@[simp] theorem qfg {c:Str}:Zu ms (.exc c ρ)=.exc c ((qB ρ 0 ms).map some):=rfl
@[simp] theorem qfh [Decidable c] {a b:Out (Fl×Sl)}:Zu ms (if c then a else b)=if c then Zu ms a else Zu ms b:=by split <;> rfl
noncomputable def KM (as:List AK) (ρ:Sl):Out (D×List D)->Out (D×Sl)
 | .ok q=>.ok (q.1,jT as q.2 ρ)
 | .exc c o=>.exc c (jT as (o.map (·.getD .non)) ρ)
 | .bad=>.bad
variable {as:List AK}
@[simp] theorem xu {q:D×List D}:KM as ρ (.ok q)=.ok (q.1,jT as q.2 ρ):=rfl
@[simp] theorem qdF {c:Str} {o:Sl}:KM as ρ (.exc c o)=.exc c (jT as (o.map (·.getD .non)) ρ):=rfl
@[simp] theorem qdG [Decidable c] {a b:Out (D×List D)}:KM as ρ (if c then a else b)=if c then KM as ρ a else KM as ρ b:=by split <;> rfl
variable {ρ:Sl}
@[simp] theorem qJ:qg i ρ=match ρ[i]? with | some (some d)=>.ok (d,ρ) | _=>.bad:=rfl
@[simp] theorem ze:dC d ρ=.ok (d,ρ):=rfl
variable {gg:D->Sl->Out Sl}
section
variable {g g':D->D->Out D} {g1:D->Out D} {fb fc:Sl->Out (D×Sl)} {ft fu:Sl->Out (Bool×Sl)} {fr:Sl->Out (List D×Sl)} {fs ft1:Sl->Out (Fl×Sl)} {fi:Sl->Out (List D×Sl)} {G:List D->Out (D×List D)}
@[simp] theorem kJ:d1 g1 fa ρ=(fa ρ).bind fun p=>(g1 p.1).plain.bind fun d=>.ok (d,p.2):=rfl
@[simp] theorem vi:d2 g fa fb ρ=(fa ρ).bind fun p=>(fb p.2).bind fun q=>(g p.1 q.1).plain.bind fun d=>.ok (d,q.2):=rfl
@[simp] theorem qfi:Kh f ρ=(f ρ).bind fun p=>(yH p.1).bind fun b=>.ok (b,p.2):=rfl
@[simp] theorem jx:qR f ρ=(f ρ).bind KL:=rfl
@[simp] theorem qfj:QZ ft ρ=(ft ρ).bind fun p=>.ok (!p.1,p.2):=rfl
@[simp] theorem qeD:qfd f ρ=(qR f ρ).bind fun p=>.ok (.bl (!p.1),p.2):=rfl
@[simp] theorem qfk:qgj ft fu ρ=(ft ρ).bind fun p=>if p.1=true then fu p.2 else .ok (false,p.2):=rfl
@[simp] theorem Xh:dOr ft fu ρ=(ft ρ).bind fun p=>if p.1=true then .ok (true,p.2) else fu p.2:=rfl
@[simp] theorem GA:Ja fa fb ρ=(fa ρ).bind fun p=>Xg p.1 (fb p.2) (.ok (.bl false,p.2)):=by
 unfold Ja
 cases fa ρ with
 | ok p=>
  obtain ⟨d,r⟩:=p
  cases d <;> try rfl
  rename_i b
  cases b <;> rfl
 | exc c o=>rfl
 | bad=>rfl
@[simp] theorem qfl:qfH fa fb ρ=(fa ρ).bind fun p=>Xg p.1 (.ok (.bl true,p.2)) (fb p.2):=by
 unfold qfH
 cases fa ρ with
 | ok p=>
  obtain ⟨d,r⟩:=p
  cases d <;> try rfl
  rename_i b
  cases b <;> rfl
 | exc c o=>rfl
 | bad=>rfl
@[simp] theorem qdH:dIf ft fa fb ρ=(ft ρ).bind fun p=>if p.1=true then fa p.2 else fb p.2:=rfl
@[simp] theorem qdI:uO g g' fa fb fc ρ=(fa ρ).bind fun p=>(fb p.2).bind fun q=>(g p.1 q.1).plain.bind fun z=>Xg z ((fc q.2).bind fun r=>(g' q.1 r.1).plain.bind fun d=>.ok (d,r.2)) (.ok (.bl false,q.2)):=by
 unfold uO
 congr 1
 funext p
 congr 1
 funext q
 congr 1
 funext z
 cases z <;> try rfl
 rename_i b
 cases b <;> rfl
@[simp] theorem ji:qF ρ=.ok ([],ρ):=rfl
@[simp] theorem qY:qe fa fr ρ=(fa ρ).bind fun p=>(fr p.2).bind fun q=>.ok (p.1::q.1,q.2):=rfl
@[simp] theorem Ws:kE fr ρ=(fr ρ).bind fun q=>.ok (D.non::q.1,q.2):=rfl
@[simp] theorem vX:yk fr ρ=(fr ρ).bind fun p=>if p.1.length<=sizeLine then .ok (.tup p.1,p.2) else .bad:=rfl
@[simp] theorem gZ:xM fr ρ=(fr ρ).bind fun p=>if p.1.length<=sizeLine then .ok (.lst p.1,p.2) else .bad:=rfl
@[simp] theorem vY:jF ρ=.ok (.nx,ρ):=rfl
@[simp] theorem Qa:jm fs ft1 ρ=(fs ρ).bind fun p=>match p.1 with | .nx=>ft1 p.2 | _=>.ok p:=by
 show _=_
 unfold jm
 cases fs ρ with
 | ok p=>obtain ⟨fl,r⟩:=p; cases fl <;> rfl
 | exc c o=>rfl
 | bad=>rfl
@[simp] theorem yP:sIf ft fs ft1 ρ=(ft ρ).bind fun p=>if p.1=true then fs p.2 else ft1 p.2:=rfl
@[simp] theorem Qb:wx f ρ=(f ρ).bind fun p=>.ok (.nx,p.2):=rfl
@[simp] theorem vG:km f ρ=(f ρ).bind fun p=>.ok (.rt p.1,p.2):=rfl
@[simp] theorem wG:wm i f ρ=(f ρ).bind fun p=>if i < p.2.length then .ok (.nx,p.2.set i (some p.1)) else .bad:=rfl
@[simp] theorem uY:qC as G fr ρ=(fr ρ).bind fun p=>match qH as p.1 p.2 with | some ds=>KM as p.2 (G ds) | none=>.bad:=rfl
@[simp] theorem qfm:qgk f ρ=(f ρ).bind fun p=>(zN p.1).bind fun ds=>.ok (ds,p.2):=rfl
@[simp] theorem KN:wt f ρ=(f ρ).bind fun p=>(ku p.1).bind fun ds=>.ok (ds,p.2):=rfl
@[simp] theorem qdJ:gNm i d ρ=if i < ρ.length then .ok (ρ.set i (some d)) else .bad:=rfl
@[simp] theorem Xi:qbK fi gg fs ρ=(fi ρ).bind fun p=>xo gg fs p.1 p.2:=rfl
@[simp] theorem qfn:qex f gg ρ=(f ρ).bind fun p=>match gg p.1 p.2 with | .ok ρ'=>.ok (.nx,ρ') | _=>.bad:=rfl
@[simp] theorem Xj {gg:List D->D->Out (List D)}:KD i gg f ρ=if xQ ρ[i]?=true then (f ρ).bind fun p=>(match p.2[i]? with | some (some (.lst xs))=>(match gg xs p.1 with | .ok ys=>.ok (.non,p.2.set i (some (.lst ys))) | _=>.bad) | _=>.bad) else .bad:=rfl
@[simp] theorem qfV:ftT ρ=.ok (true,ρ):=rfl
end
end L2.D2
namespace L2.D2
open PySem PySem.Spec PyProof.Rows
def qcD (i j:Int):Prop:=(0<=j/\j<=64)/\-4611686018427387904 < i/\i < 4611686018427387904
instance:∀ i j,Decidable (qcD i j):=fun i j=>inferInstanceAs (Decidable (_/\_))
variable {X:Cx} {C:Ct}
section
theorem qaw:OpR X (binaryOp .Pow) (rI qcD fun i j=>.int (i ^ j.toNat)):=opI fun i j _ _ _ _ _ hc q=>by
 obtain ⟨⟨h0,h1⟩,h2,h3⟩:=hc
 exact pow_int_small h0 (by omega) (by omega) q
noncomputable def qfo:D->D->Out D:=gL fun i j=>if qcD i j then .ok (.int (i ^ j.toNat)) else .bad
theorem qdK:OpD X C .sh (binaryOp .Pow) qfo:=Yg qaw fun _ _ _=>.int _
end
noncomputable def Xk (sep:Str):D->Out D
 | .lst ds=>match zd ds with
  | some ss=>if (ss.map (·.length)).sum+ss.length * sep.length<=16777216/\(fh sep ss).length<=sizeLine then .ok (.str (fh sep ss)) else .bad
  | none=>.bad
 | _=>.bad
variable {own:List Nat} {m:Mo}
section
variable {e:Expr} {fe:Sl->Out (D×Sl)} {apos cpos:Pos} {sep:Str}
theorem qbY:MtR X "str.join" (fun x vs H Q=>∃ (sep:Str) (a:Addr) (xs:List V) (ss:List Str),x=.str sep/\vs=[.ref a]/\SqL X.K H a xs/\(∀ us,Vals xs us->StrsAre us ss)/\(ss.map (·.length)).sum+ss.length * sep.length<=16777216/\Q (.str (fh sep ss)) H):=by
 intro pins s σ H x vs v us Q I rx rv h
 obtain ⟨sep,a,xs,ss,rfl,rfl,hq,hb,hz,q⟩:=h
 obtain ⟨t,rfl⟩:=rx
 obtain ⟨u,rfl,ru⟩:=rv.one
 cases ru
 obtain ⟨its,r,pl,_⟩:=I.list hq
 obtain ⟨o,n,ho,hc,hd,hdt⟩:=pl
 exact join_list ⟨o,ho,hc,n,hdt⟩ (by simpa using hb its r) hz fun t' k=>⟨.str (fh sep ss),H,I.tok _,⟨_,rfl⟩,q⟩
theorem qbZ {c1 c2} (hK:C.K=X.K) (he:PE X e (tE C own m fe))
  (hbase:attributeBase (.Constant (.str sep) c1 c2) "join" X.env (eval (.Constant (.str sep) c1 c2) X.env)=eval (.Constant (.str sep) c1 c2) X.env:=by rfl)
  (hfew:((backTo cpos (starEach [e] X.env)).all (fun x=>!x.1)&&(backToKw cpos (keywordEach [] X.env)).all (fun x=>x.1.isSome)
   && decide ([e].length+([]:List Keyword).length+(if ([]:List Keyword).isEmpty then 0 else 1) < 30))=true:=by exact uM rfl)
  (hline:(apos.endLine == cpos.line)=true:=by rfl) (hs:starEach [e] X.env=[(false,eval e X.env)]:=by exact qO rfl) :
  PE X (.Call (.Attribute (.Constant (.str sep) c1 c2) "join" apos) [e] [] cpos) (tE C own .sh (d1 (Xk sep) fe)):=by
 refine jd (UV PySem.F.plainAttrs_str PySem.F.slot_str_join PySem.F.type_str_join qbY qar (qV he jZ hs) hbase hfew hline hs rfl) fun σ H Q h=>?_
 refine ⟨rfl,?_⟩
 obtain ⟨F,ρ,rp,h⟩:=Yd (ma:=m) h
 refine ⟨F,ρ,rp,?_⟩
 cases q:fe ρ with
 | ok p=>
  rw [q] at h
  obtain ⟨d,ρ1⟩:=p
  intro v F1 H1 rp1 c1 mo1
  obtain ⟨F2,dx,sb,tx,po⟩:=h v F1 H1 rp1 c1 mo1
  cases dx <;> try exact po.elim
  rename_i ds
  unfold Xk at po
  cases q2:zd ds with
  | none=>simp only [q2] at po; exact po.elim
  | some ss=>
   simp only [q2] at po
   by_cases hz:(ss.map (·.length)).sum+ss.length * sep.length<=16777216/\(fh sep ss).length<=sizeLine
   ·rw [if_pos hz] at po
    obtain ⟨a,vs,rfl,hq,t⟩:=tx.lst sb
    have hq':SqL X.K H1 a vs:=by rw [<-hK]; exact hq
    exact ⟨sep,a,vs,ss,rfl,rfl,hq',fun us r=>(gW t r q2).1,hz.1,po _ F2 H1 sb .refl (.str hz.2)⟩
   ·rw [if_neg hz] at po
    exact po.elim
 | exc c=>rw [q] at h; exact h
 | bad=>rw [q] at h; exact h.elim
end
noncomputable def dM (k:D->Bool) (g:D->D->Out D) (fo fa:Sl->Out (D×Sl)):Sl->Out (D×Sl):=fun ρ=>(fo ρ).bind fun p=>if k p.1 then (fa p.2).bind fun q=>(g p.1 q.1).plain.bind fun d=>.ok (d,q.2) else .bad
variable {σ:St} {F H:Hp} {Q:VK} {g:D->D->Out D}
section
variable {a b:Expr} {fa fb:Sl->Out (D×Sl)} {ma mb:Mo} {pos:Pos}
theorem Po.imp {r:Out (D×Sl)} {R:VK} (h:Po C own m σ F H r Q) (i:∀ v H',Q v H'->R v H'):Po C own m σ F H r R:=by
 cases r with
 | ok p=>exact fun v F' H' rp c mo=>i v H' (h v F' H' rp c mo)
 | exc x=>exact h
 | bad=>exact h.elim
theorem qb0 {k:D->Bool} (hma:ma≠.any) (h:tE C own m (dM k g fa fb) σ H Q) :
  tE C own ma fa σ H fun x H1=>(∃ F dx,Same F H1/\TopIs C.K F H1 x dx/\k dx=true)/\tE C own mb fb σ H1 fun y H2=>∃ F dx dy,Same F H2/\TopIs C.K F H2 x dx/\TopIs C.K F H2 y dy/\PoV C m F H2 (g dx dy) Q:=by
 obtain ⟨F,ρ,rp,h⟩:=h
 refine ⟨F,ρ,rp,Po.bind h fun v F1 H1 d ρ1 rp1 c1 mo1 h1=>?_⟩
 cases hk:k d with
 | false=>simp only [hk] at h1; exact h1.elim
 | true=>
  simp only [hk,if_true] at h1
  exact ⟨⟨F1,d,rp1.sub,mo1.top,hk⟩,F1,ρ1,rp1,Po.bind h1 fun w F2 H2 e ρ2 rp2 c2 mo2 h2=>⟨F2,d,e,rp2.sub,(mo1.grow hma c2 fun x z=>(rp.OA_there z).1).top,mo2.top,PoV.of rp2 h2⟩⟩
def MtD (X:Cx) (C:Ct) (m:Mo) (id:String) (g:D->D->Out D):Prop:=
 MtR X id (fun x vs H Q=>∃ y F dx dy,vs=[y]/\Same F H/\TopIs C.K F H x dx/\TopIs C.K F H y dy/\PoV C m F H (g dx dy) Q)
noncomputable def qfp:D->Bool
 | .lst _=>true
 | _=>false
theorem GB {name:Str} {id:String} {apos cpos:Pos} (slot:Slot "list" name id) (hty:typeOf (.builtin id)=pure (.type "method_descriptor")) (hm:MtD X C m id g) (hK:C.K=X.K)
  (ha:PE X a (tE C own ma fa)) (hb:PE X b (tE C own mb fb)) (hma:ma≠.any:=by decide)
  (hbase:attributeBase a name X.env (eval a X.env)=eval a X.env:=by rfl)
  (hfew:((backTo cpos (starEach [b] X.env)).all (fun x=>!x.1)&&(backToKw cpos (keywordEach [] X.env)).all (fun x=>x.1.isSome)
   && decide ([b].length+([]:List Keyword).length+(if ([]:List Keyword).isEmpty then 0 else 1) < 30))=true:=by exact uM rfl)
  (hline:(apos.endLine == cpos.line)=true:=by rfl) (hs:starEach [b] X.env=[(false,eval b X.env)]:=by exact qO rfl) :
  PE X (.Call (.Attribute a name apos) [b] [] cpos) (tE C own m (dM qfp g fa fb)):=by
 refine jd (UV bY slot hty hm ha (qV hb jZ hs) hbase hfew hline hs rfl) fun σ H Q h=>?_
 obtain ⟨F,ρ,rp,h⟩:=qb0 (ma:=ma) (mb:=mb) hma h
 refine ⟨F,ρ,rp,Po.imp h fun x H1 h1=>?_⟩
 obtain ⟨⟨F1,dx,sb,tx,hk⟩,h2⟩:=h1
 refine ⟨?_,?_⟩
 ·cases dx <;> try (cases hk; done)
  obtain ⟨a,vs,rfl,hq,t⟩:=tx.lst sb
  exact .inl ⟨rfl,vs,by rw [<-hK]; exact hq⟩
 ·obtain ⟨F2,ρ2,rp2,h2⟩:=h2
  exact ⟨F2,ρ2,rp2,Po.imp h2 fun y H2 q=>⟨y,q.choose,q.choose_spec.choose,q.choose_spec.choose_spec.choose,rfl,q.choose_spec.choose_spec.choose_spec⟩⟩
end
theorem Xl {pins:List (Addr×Obj)} {s:Shared} (I:Inv X pins σ H s) (sb:Same F H) {n:Nat} {e:D}:∀ {vs:List V} {ds:List D} {us:List Value} {b:Bool},IsL X.K F vs ds->Vals vs us->zL n e ds=some b ->
  us.map (UB X F n e)=ds.map fun d=>eqN n d e == some true
 | _,_,_,b,.nil,.nil,h=>rfl
 | _,_,_,b,.cons i t,.cons r rs,h=>by
  obtain ⟨a,c,q1,q2,rfl⟩:=QX h
  rw [aA,aA,Xl I sb t rs q2,Yn I sb i r q1,q1]
  cases a <;> rfl
noncomputable def yQ:D->D->Out D
 | .lst ds,e=>match zL 7 e ds with
  | some _=>match (ds.map fun d=>eqN 7 d e == some true).findIdx? id with
   | some j=>.ok (.int (j:Nat))
   | none=>.bad
  | none=>.bad
 | _,_=>.bad
section
theorem GC (hK:C.K=X.K) (hu:X.A.units+64 < cLine):MtD X C .sh "list.index" yQ:=by
 intro pins s σ H x vs v us Q I rx rv h
 obtain ⟨y,F,dx,dy,rfl,sb,tx,ty,po⟩:=h
 rw [hK] at tx ty
 obtain ⟨u,rfl,ru⟩:=rv.one
 unfold yQ at po
 cases dx <;> try exact po.elim
 rename_i ds
 cases e:zL 7 dy ds with
 | none=>simp only [e] at po; exact po.elim
 | some b=>
  simp only [e] at po
  cases hj:(ds.map fun d=>eqN 7 d dy == some true).findIdx? id with
  | none=>simp only [hj] at po; exact po.elim
  | some j=>
   simp only [hj] at po
   obtain ⟨F',g',sb',iy⟩:=ty.is sb
   obtain ⟨a,xs,rfl,p,il⟩:=tx.lst sb
   cases rx
   obtain ⟨its,r,pl,hz⟩:=I.list p
   obtain ⟨h1,h2⟩:=QY (A:=X.A) (y:=.non) (a:=a) (u:=.none) I hu sb' iy ru (il.mono g') r e
   have hh:=Xl I sb' (il.mono g') r e
   rw [<-hh] at hj
   obtain ⟨⟨cls,dd,data,sl⟩,n,ho,hc,hd,hdt⟩:=pl
   simp only at hc hd hdt
   subst hc hdt
   obtain ⟨hj1,hj2,hj3⟩:=cG.mp hj
   have hlen:its.length<=sizeLine:=by have:=r.length; omega
   have hj1':j < its.length:=by simpa using hj1
   refine call_meets PySem.F.slot_list_index ⟨_,ho,rfl⟩ PySem.F.entry_list_index (PySem.F.args_list_index_2 _ _) (SeqAt.list_indexAt a _ n dd sl u (UB X F' 7 dy) j (by simpa using hj1') (by rw [sizeLine_eq] at hlen; omega) (by simpa using hj2) fun m hm h1=>?_) ⟨ho,fun w hw=>h2 w hw,?_⟩
   ·have:=hj3 m h1
    simpa using this
   ·exact ⟨.int (j:Nat),H,I.tok _,⟨_,rfl⟩,po _ F H sb .refl (.int _)⟩
end
theorem Wt {xs:List V} {us:List Value} (r:Vals xs us):∀ n:Nat,Vals (au n xs).flatten (au n us).flatten
 | 0=>.nil
 | n+1=>by
  rw [bM,bM,cb,cb]
  exact r.append (Wt r n)
theorem Xm {K:Frag} {vs:List V} {ds:List D} (r:IsL K F vs ds):∀ n:Nat,IsL K F (au n vs).flatten (au n ds).flatten
 | 0=>.nil
 | n+1=>by
  rw [bM,bM,cb,cb]
  exact r.append (Xm r n)
theorem Xn {α:Type} (l:List α):∀ n:Nat,(au n l).flatten.length=l.length * n
 | 0=>by simp
 | n+1=>by rw [bM,cb,am,Xn l n,Nat.mul_succ,Nat.add_comm]
noncomputable def qdL:D->D->Out D
 | .lst ds,.int n=>if (0<=n/\n<=100000)/\ds.length * n.toNat<=1000000 then .ok (.lst (au n.toNat ds).flatten) else .bad
 | _,_=>.bad
section
theorem qb1 (hK:C.K=X.K):OpD X C .fr (binaryOp .Mult) qdL:=by
 intro pins s σ H x y v u Q I rx ry h
 obtain ⟨F,dx,dy,sb,tx,ty,po⟩:=h
 cases dx <;> try exact po.elim
 cases dy <;> try exact po.elim
 rename_i ds n
 unfold qdL at po
 by_cases hz:(0<=n/\n<=100000)/\ds.length * n.toNat<=1000000
 ·simp only [if_pos hz] at po
  obtain ⟨a,xs,rfl,p,il⟩:=tx.lst sb
  obtain rfl:=ty.int
  cases rx
  obtain ⟨t,rfl⟩:=ry
  rw [hK] at p
  obtain ⟨its,r,pl,_⟩:=I.list p
  have hlen:its.length=ds.length:=by rw [<-r.length,il.length]
  obtain ⟨⟨cls,d,data,sl⟩,k,ho,hc,hd,hdt⟩:=pl
  simp only at hc hd hdt
  subst hc hdt
  have hq:H s.heap.objs.size=none:=I.hok.fresh (ax _)
  obtain ⟨s2,c2,f2⟩:=wy (u:=.lst (au n.toNat xs).flatten) sb hq
  have hw:(au n.toNat xs).flatten.length<=sizeLine:=by rw [Xn,il.length,sizeLine_eq]; omega
  refine wpAny_binaryOp_repeat_ref (T := "list") (U := "int") (by decide) ⟨_,ho,rfl⟩ (fun s'=>typeIs_int s' n t) noFill_list_mul PySem.F.fills_int_mul PySem.F.slot_int_rmul repeat_list PySem.F.slot_int_index.lookup
   (call_meets PySem.F.slot_int_rmul (typeIs_int s n t) PySem.F.entry_int_rmul (PySem.F.args_int_rmul_2 _ _) (lm_int_rmul_list_any n t a its.toArray k d sl)
    ⟨ho,rfl,⟨_,ho,rfl⟩,call_meets PySem.F.slot_list_mul ⟨_,ho,rfl⟩ PySem.F.entry_list_mul (PySem.F.args_list_mul_2 _ _)
     (lm_list_mul_any a its.toArray k d sl n t (by simp [Builtin.List.listFitsIndex]; omega) (by rw [ak,hlen]; omega) (by simp [cL,sizeLine]; rw [hlen]; omega))
     ⟨ho,?_⟩⟩)
  refine ⟨.ref s.heap.objs.size,_,I.laid (t':=s.toks) (o:=.lst (au n.toNat xs).flatten) (fun b o e=>aa _ e) (ax _) ⟨hw,(au n.toNat its).flatten,0,Wt r _,?_⟩,rfl,po _ _ _ s2 c2 ⟨_,rfl,hq,f2,_,qm,Xm il _⟩⟩
  rw [listMul_foldl_if]
  exact ag _ rfl
 ·simp only [if_neg hz] at po
  exact po.elim
end
def qgn (i j:Int):Prop:=(-(2 ^ 62)<=i/\i < 2 ^ 62)/\-(2 ^ 62)<=j/\j < 2 ^ 62
instance:∀ i j,Decidable (qgn i j):=fun i j=>inferInstanceAs (Decidable (_/\_))
mutual
def qdM:Nat->Expr->Option D
 | 0,_=>none
 | n+1,e=>match e with
  | .Constant c _ _=>match c with
   | .none=>some .non
   | .bool b=>some (.bl b)
   | .int i=>some (.int i)
   | .str x=>if x.length<=sizeLine then some (.str x) else none
   | _=>none
  | .UnaryOp .USub (.Constant (.int i) _ _) _=>some (.int (-i))
  | .List es _=>(qcI n es).bind fun ds=>if ds.length<=sizeLine then some (.lst ds) else none
  | .Tuple es _ _=>(qcI n es).bind fun ds=>if ds.length<=sizeLine then some (.tup ds) else none
  | _=>none
def qcI:Nat->List Expr->Option (List D)
 | _,[]=>some []
 | 0,_::_=>none
 | n+1,e::es=>(qdM n e).bind fun d=>(qcI n es).bind fun ds=>some (d::ds)
end
theorem Wu {α:Type}:∀ l:List α,((l.map fun _=>AK.vl).all fun a=>decide (a=.vl))=true
 | []=>rfl
 | _::l=>by rw [aA,dH,Wu l]; rfl
theorem Xo {n:Nat} {e:Expr} {d:D} (h:qdM n e=some d):Ku e=true:=by
 cases n with
 | zero=>cases h
 | succ n=>cases e <;> first | rfl | (simp [qdM] at h)
section
variable {X:Cx} {C:Ct} {own:List Nat}
mutual
theorem qdN:∀ (n:Nat) {e:Expr} {d:D},qdM n e=some d->PE X e (tE C own .sh (dC d))
 | 0,_,_,h=>by cases h
 | n+1,e,d,h=>by
  unfold qdM at h
  split at h
  ·split at h
   ·cases h; exact xJ
   ·cases h; exact xI
   ·cases h; exact qA
   ·split at h
    ·rename_i hz
     cases h
     exact kS hz
    ·cases h
   ·cases h
  ·cases h
   exact jd (qbx YD qA) fun σ H Q h=>h
  ·obtain ⟨ds,h1,h2⟩:=cr.mp h
   split at h2
   ·rename_i hz
    cases h2
    have e2:xM (fun ρ=>.ok (ds,ρ))=dC (.lst ds):=by
     funext ρ
     unfold xM dC
     rw [Out.ok_bind,if_pos hz]
    rw [<-e2]
    exact vg (vn (Qc n h1) (Wu _)) (by decide)
   ·cases h2
  ·obtain ⟨ds,h1,h2⟩:=cr.mp h
   split at h2
   ·rename_i hz
    cases h2
    have e2:yk (fun ρ=>.ok (ds,ρ))=dC (.tup ds):=by
     funext ρ
     unfold yk dC
     rw [Out.ok_bind,if_pos hz]
    rw [<-e2]
    exact kT (Qc n h1) (Wu _)
   ·cases h2
  ·cases h
theorem Qc:∀ (n:Nat) {es:List Expr} {ds:List D},qcI n es=some ds->PA X es (tAr C own (es.map fun _=>.vl) fun ρ=>.ok (ds,ρ))
 | 0,[],ds,h=>by
  cases h
  exact ql
 | _+1,[],ds,h=>by
  cases h
  exact ql
 | 0,_::_,ds,h=>by cases h
 | n+1,e::es,ds,h=>by
  unfold qcI at h
  obtain ⟨d,h1,h⟩:=cr.mp h
  obtain ⟨ds',h2,h⟩:=cr.mp h
  cases h
  have e2:qe (dC d) (fun ρ=>.ok (ds',ρ))=fun ρ=>.ok (d::ds',ρ):=rfl
  rw [<-e2]
  exact qc (qdN n h1) (Qc n h2) (by decide) (jk (Xo h1))
end
theorem Xp {es:List Expr} {ds:List D} {pos:Pos} (n:Nat) (h:qcI n es=some ds):PE X (.List es pos) (tE C own .fr (xM fun ρ=>.ok (ds,ρ))):=vn (Qc n h) (Wu _)
end
noncomputable def txI (i:Int):Str:=toString i
def CTx (i:Int):Prop:=i.natAbs.log2 < 1920/\(txI i).length<=sizeLine
instance:∀ i,Decidable (CTx i):=fun i=>inferInstanceAs (Decidable (_/\_))
end L2.D2
namespace PySem
open Builtin Builtin.Str
end PySem
namespace L2.D2
open PySem PySem.Spec PyProof.Rows
def qgo (x y:Str):Prop:=(y.length == 0)=false/\(Txt.split x y).length<=sizeLine/\∀ z∈Txt.split x y,z.length<=sizeLine
instance:∀ x y,Decidable (qgo x y):=fun x y=>inferInstanceAs (Decidable (_/\_))
inductive IntsAre:List Value->List Int->Prop
 | nil:IntsAre [] []
 | cons (y:Int) (t:Tok) {vs:List Value} {ys:List Int} (h:IntsAre vs ys):IntsAre (c6 y t::vs) (y::ys)
theorem IntsAre.length:∀ {vs:List Value} {ys:List Int},IntsAre vs ys->vs.length=ys.length
 | _,_,.nil=>rfl
 | _,_,.cons _ _ h=>congrArg (·+1) h.length
theorem IntsAre.item:∀ {vs:List Value} {ys:List Int},IntsAre vs ys->∀ (i:Nat) (v:Value),vs[i]?=some v->∃ y t,v=c6 y t/\ys[i]?=some y
 | _,_,.nil,i,v,e=>by simp at e
 | _,_,.cons y t h,0,v,e=>by simp at e; subst e; exact ⟨y,t,rfl,rfl⟩
 | _,_,.cons y t h,i+1,v,e=>by
  obtain ⟨z,t',e1,e2⟩:=h.item i v (by simpa using e)
  exact ⟨z,t',e1,by simpa using e2⟩
noncomputable def zOf:Value->Int
 | .int i _=>i
 | _=>0
theorem Xq {x:Int} {v:Value} (h:eG x v=true):∃ t,v=c6 x t:=by
 cases v <;> first | (cases h; done) | skip
 rename_i i t
 have:i=x:=by simpa [eG] using h
 subst this
 exact ⟨t,rfl⟩
noncomputable def wu (ks:List Int) (x:Int):List Int:=if x∈ks then ks else ks++[x]
structure SetDZ (prog:Program) (w:World) (es:Array (Int×Value)) (t:SetTable) (ks:List Int):Prop where
 el:ElemsOf (bL prog w) es.toList
 perm:(es.toList.map fun e=>zOf e.2).Perm ks
 nd:ks.Nodup
 bd:es.size < scanBound
 fits:t.fits es.size=true
def SetZ (prog:Program) (w:World) (h:Heap) (a:Addr) (ks:List Int):Prop:=∃ es ep t,h.get? a=some (jC es ep t)/\SetDZ prog w es t ks
variable {prog:Program} {w:World} {A:Around} {E:Value->Shared->Prop} {s:Shared} {es:Array (Int×Value)} {ks:List Int} {a:Addr}
section
theorem qaP {l:List (Int×Value)} (h:ElemsOf (bL prog w) l) {e:Int×Value} (he:e∈l):∃ x t,e.2=.int x t:=by
 obtain ⟨⟨k,hk,_⟩,_⟩:=h e he
 obtain ⟨t,ht⟩:=Xq hk
 exact ⟨k,t,ht⟩
theorem isZ {x y:Int} {t:Tok}:(bL prog w).is x (.int y t)=decide (x=y):=by
 have h:(bL prog w).is y (.int y t)=true:=by
  show eG y (.int y t)=true
  simp [eG]
 exact KeyKind.is_eq_decide h x
theorem SetDZ.mem {t:SetTable} (h:SetDZ prog w es t ks) {x:Int}:x∈ks↔∃ e∈es.toList,(bL prog w).is x e.2=true:=by
 rw [<-h.perm.mem_iff,aH]
 constructor
 ·rintro ⟨e,he,z⟩
  obtain ⟨y,t,hy⟩:=qaP h.el he
  refine ⟨e,he,?_⟩
  rw [hy] at z ⊢
  rw [isZ]
  exact decide_eq_true z.symm
 ·rintro ⟨e,he,z⟩
  obtain ⟨y,t,hy⟩:=qaP h.el he
  refine ⟨e,he,?_⟩
  rw [hy] at z ⊢
  rw [isZ] at z
  exact (of_decide_eq_true z).symm
theorem SetDZ.size {t:SetTable} (h:SetDZ prog w es t ks):es.size=ks.length:=by
 have e:=h.perm.length_eq
 simpa using e
theorem SetDZ.more {es1:Array (Int×Value)} {t t1:SetTable} {x:Int} {tk:Tok} (h:SetDZ prog w es t ks) (nx:x∉ks) (hr:ks.length+1 < scanBound)
  (hp:es1.toList.Perm (es.toList++[((bL prog w).hash x,.int x tk)])) (hf:t1.fits es1.size=true):SetDZ prog w es1 t1 (wu ks x):=by
 have ex:wu ks x=ks++[x]:=if_neg nx
 have hz:es1.size=ks.length+1:=by
  rw [<-cy,hp.length_eq,am,cy,h.size]
  rfl
 rw [ex]
 refine ⟨(h.el.push (by rw [isZ]; exact decide_eq_true rfl) rfl).perm hp,?_,?_,?_,hf⟩
 ·refine (hp.map _).trans ?_
  rw [cI]
  exact h.perm.append (cq _)
 ·exact eh.mpr ⟨h.nd,by simp,fun a ha b hb=>by rw [aC.mp hb]; exact fun z=>nx (z ▸ ha)⟩
 ·rw [hz]
  exact hr
theorem GD {x:Int} {tk:Tok} {Q:Bool->Shared->Prop} (hS:SetZ prog w s.heap a ks) (hr:ks.length+1 < scanBound)
  (h:∀ h' b,bA a s.heap h'->SetZ prog w h' a (wu ks x)->Q b { s with heap:=h' }):wpAny (model prog w) A (setAddHashed a (.int x tk) ((bL prog w).hash x)) Q E s:=by
 obtain ⟨es,ep,t,ho,d⟩:=hS
 have hk:(bL prog w).is x (.int x tk)=true:=by rw [isZ]; exact decide_eq_true rfl
 unfold setAddHashed setAddHashedIn
 refine wpAny_holding (wpAny_bind (wpAny_setState_of ho rfl d.fits ?_))
 dsimp only
 rw [byScan_of rfl d.bd d.el,if_pos rfl]
 unfold setAddByScan
 refine wpAny_bind (wpAny_bind (wpAny_rule (wpAny_bind (wpAny_setScan_of hk ho rfl d.fits d.el ?_))))
 cases hq:es.toList.findIdx? (fun e=>(bL prog w).is x e.2) with
 | some j=>
  obtain ⟨hj,hp,_⟩:=cG.mp hq
  have hx:x∈ks:=d.mem.mpr ⟨_,cA hj,hp⟩
  have q:=h s.heap false (Heap.SameBut.refl a s.heap) ⟨es,ep,t,ho,by rw [show wu ks x=ks from if_pos hx]; exact d⟩
  dsimp only
  exact wpAny_pure (wpAny_pure q)
 | none=>
  have hx:x∉ks:=fun z=>by
   obtain ⟨e,he,q⟩:=d.mem.mp z
   have:=dF.mp hq e he
   rw [q] at this
   cases this
  dsimp only
  have hp:=layNew_perm t es ((bL prog w).hash x) (.int x tk)
  have hf:=layNew_fits t es ((bL prog w).hash x) (.int x tk)
  generalize layNew t es ((bL prog w).hash x) (.int x tk)=L at hp hf ⊢
  obtain ⟨es1,t1,wd,gv⟩:=L
  dsimp only at hp hf ⊢
  rw [eX] at hp
  have tail:∀ t2:SetTable,t2.fits es1.size=true->wpAny (model prog w) A (do
    storeSet a es1 t2
    if (!wd&&t2.tooFull)=true then do
      (match (relayAll t2 es1 (bI es1.size)).2.2 with | true=>rule "set.scan.the-table-gave-way" | false=>pure ())
      storeSet a (relayAll t2 es1 (bI es1.size)).1 (relayAll t2 es1 (bI es1.size)).2.1
      pure (some true)
     else pure (some true)) (fun r s'=>∃ h',s'={ s with heap:=h' }/\r=some true/\bA a s.heap h'/\SetZ prog w h' a (wu ks x)) E s:=by
   intro t2 f2
   have d2:=d.more hx hr hp f2
   refine wpAny_bind (wpAny_storeSet_of ho rfl ?_ (fits_of_scanBound d2.bd))
   have ho1:=Wn (es':=es1) (t':=t2) ho
   have sb:=bb s.heap a (eT es1 t2)
   split
   ·have rp:=relayAll_perm t2 es1 (bI es1.size)
    have rf:=relayAll_fits t2 es1 (bI es1.size)
    generalize relayAll t2 es1 (bI es1.size)=R at rp rf ⊢
    obtain ⟨es2,t3,g2⟩:=R
    dsimp only at rp rf ⊢
    have d3:=d.more hx hr (rp.trans hp) rf
    refine wpAny_bind ?_
    have go:wpAny (model prog w) A (storeSet a es2 t3 >>= fun _=>pure (some true)) (fun r s'=>∃ h',s'={ s with heap:=h' }/\r=some true/\bA a s.heap h'/\SetZ prog w h' a (wu ks x)) E { s with heap:=s.heap.update a (eT es1 t2) }:=
     wpAny_bind (wpAny_storeSet_of ho1 rfl (wpAny_pure ⟨_,rfl,rfl,sb.trans (bb _ a _),es2,_,t3,Wn ho1,d3⟩) (fits_of_scanBound d3.bd))
    cases g2
    ·exact wpAny_pure go
    ·exact wpAny_rule go
   ·exact wpAny_pure ⟨_,rfl,rfl,sb,es1,_,t2,ho1,d2⟩
  have fin:∀ (r:Option Bool) (s':Shared),(∃ h',s'={ s with heap:=h' }/\r=some true/\bA a s.heap h'/\SetZ prog w h' a (wu ks x)) ->
    wpAny (model prog w) A (match r with | some added=>pure added | none=>setAddHashedIn a (.int x tk) ((bL prog w).hash x) 99999) Q E s':=by
   rintro r s' ⟨h',rfl,rfl,sb,hS⟩
   exact wpAny_pure (h h' true sb hS)
  have gw:∀ (b:Bool) {s₁:Shared} {Q':Unit->Shared->Prop},Q' () s₁->wpAny (model prog w) A (match b with | true=>rule "set.scan.the-table-gave-way" | false=>pure ()) Q' E s₁:=fun b s₁ Q' q=>by
   cases b
   ·exact wpAny_pure q
   ·exact wpAny_rule q
  refine wpAny_bind (gw _ ?_)
  cases e1:t1.plain with
  | true=>
   rw [if_pos rfl,hashByValue_scannable 8 (x:=.int x tk) rfl]
   refine wpAny_bind (wpAny_pure ?_)
   exact wpAny_mono (tail (if plainKind (c6 x tk)=true then t1 else { t1 with plain:=false }) (by split; exact hf; exact SetTable.fits_plain_off hf)) fin fun _ _ z=>z
  | false=>
   rw [if_neg (by simp)]
   refine wpAny_bind (wpAny_pure ?_)
   exact wpAny_mono (tail t1 hf) fin fun _ _ z=>z
end
theorem Wv (ks:List Int) (x:Int):(wu ks x).length<=ks.length+1:=by
 unfold wu
 split
 ·omega
 ·rw [am]
  exact ax _
theorem zf:∀ (l ks:List Int),(l.foldl wu ks).length<=ks.length+l.length
 | [],ks=>ax _
 | x::l,ks=>by
  have h1:=zf l (wu ks x)
  have h2:=Wv ks x
  rw [bO,ae]
  omega
variable {h:Heap}
theorem SetZ.at {h':Heap} (hS:SetZ prog w h a ks) (k:∀ o,h.get? a=some o->h'.get? a=some o):SetZ prog w h' a ks:=
 let ⟨es,ep,t,ho,d⟩:=hS; ⟨es,ep,t,k _ ho,d⟩
section
variable {R:Result->Shared->Prop} {I:Addr} {fp wr:List Addr} {n:Nat} {P:Nat->Value->Prop} {St:Nat->Shared->Prop}
theorem JE {G:Array GenState->Array GenState->Prop} (W:WalksS prog w A.in1 I fp wr G n P St) (S:Addr) (hSf:S∉fp) (ss:List Int) (hn:ss.length=n) (hv:∀ i v,P i v->∃ x t,ss[i]?=some x/\v=.int x t) (hb:n+1 < scanBound) :
  ∀ (k i:Nat) (s:Shared),n - i=k->i<=n->St i s->SetZ prog w s.heap S ((ss.take i).foldl wu []) ->
   (∀ s',Moved (S::wr) G s s'->SetZ prog w s'.heap S (ss.foldl wu [])->R (.ok (.ret .none)) s')->codeAny (model prog w) A (.builtin "set.update.loop" ⟨[.ref S,.ref I],[]⟩) R s:=by
 have nw:S∉wr:=fun h=>hSf (W.sub _ h)
 have up:∀ b∈wr,b∈S::wr:=fun b hb=>af _ hb
 intro k
 induction k with
 | zero=>
  intro i s hk hi hst hS hR
  have hin:i=n:=by omega
  subst hin
  refine codeAny_builtin cU ?_
  rw [bE bZ _]; show wpAny _ A.in1 (pyNext (.ref I) >>= _) _ _ s
  refine wpAny_bind (W.done s _ _ hst fun s' hm=>wpAny_pure (hR s' (hm.mono up) ?_))
  rw [List.take_of_length_le (dY hn)] at hS
  exact hS.at fun o e=>hm.heap S o nw e
 | succ k ih=>
  intro i s hk hi hst hS hR
  have hlt:i < n:=by omega
  refine codeAny_builtin cU ?_
  rw [bE bZ _]; show wpAny _ A.in1 (pyNext (.ref I) >>= _) _ _ s
  refine wpAny_bind (W.item i s _ _ hlt hst fun v s' hP hst' hm=>?_)
  obtain ⟨x,t,hx,rfl⟩:=hv i v hP
  have hS':SetZ prog w s'.heap S ((ss.take i).foldl wu []):=hS.at fun o e=>hm.heap S o nw e
  show wpAny _ A.in1 (holding [c6 x t] (setAdd S (.int x t)) >>= _) _ _ s'
  refine wpAny_bind (wpAny_holding ?_)
  unfold setAdd
  refine wpAny_holding (wpAny_bind ((bL prog w).pyHash (k:=x) (by rw [isZ]; exact decide_eq_true rfl) ?_))
  have hroom:((ss.take i).foldl wu []).length+1 < scanBound:=by
   have h1:=zf (ss.take i) []
   rw [dA,aq] at h1
   omega
  refine GD (s:={ s' with toks:=s'.toks+1 }) hS' hroom fun h' b sb hS2=>?_
  have e2:wu ((ss.take i).foldl wu []) x=(ss.take (i+1)).foldl wu []:=by
   rw [eY,hx,List.foldl_append]
   rfl
  rw [e2] at hS2
  refine wpAny_pure ⟨plainId_quiet bZ _,ih (i+1) _ (by omega) hlt (W.frame _ s' _ _ hst' (eV _) fun b hb o e=>?_) hS2 fun s'' hm'' hS''=>?_⟩
  ·rw [sb.2 b fun z:b=S=>hSf (z ▸ hb)]
   exact e
  ·refine hR s'' (Moved.trans W.gtrans ((hm.mono up).then_heap (eV _) fun b o hb e=>?_) hm'') hS''
   rw [sb.2 b fun z:b=S=>hb (z ▸ aw)]
   exact e
end
variable {ss:List Int} {i:Nat} {items:Array Value}
section
theorem gq (e:h.get? a=some (Gt w)):SetZ prog w h a []:=
 ⟨_,_,_,e,⟨fun e he=>by simp at he,by simp,bJ,by decide,by rfl⟩⟩
theorem Xr {vs:List Value} (h:IntsAre vs ss) {v:Value} (e:vs[i]?=some v):∃ x t,ss[i]?=some x/\v=.int x t:=by
 obtain ⟨y,t,e1,e2⟩:=h.item i v e
 exact ⟨y,t,e2,e1⟩
theorem Xu {S l:Addr} {Q:Unit->Shared->Prop} (hh:A.handled=none) (hS:SetZ prog w s.heap S []) (hl:s.heap.IsList l items) (hi:IntsAre items.toList ss) (hb:items.size+1 < scanBound) (hne:l≠S)
  (h:∀ h' tk,SetZ prog w h' S (ss.foldl wu [])->(∀ b o,b≠S->s.heap.get? b=some o->h'.get? b=some o)->Q () { s with heap:=h',toks:=tk }) :
  wpAny (model prog w) A (aL "set.__init__" S (.ref l)) Q E s:=by
 have hT:s.TypeIs (.ref l) "list":=let ⟨o,e,c,_⟩:=hl; ⟨o,e,c⟩
 unfold aL
 refine wpAny_bind (m:=be _) ?_
 unfold be
 refine wpAny_bind (wpAny_isInstance hT PySem.F.sub_list_set ?_)
 refine wpAny_isInstance hT PySem.F.sub_list_frozenset ?_
 rw [if_neg (by decide)]
 refine wpAny_bind (wpAny_typeOf hT ?_)
 rw [if_neg (by decide)]
 refine wpAny_bind (wpAny_pyIter_list hl ?_)
 have hz:s.heap.objs.size≠S:=fun z=>by
  obtain ⟨es,ep,t,ho,_⟩:=hS
  exact bu _ (z ▸ ap ho)
 have hzl:l≠s.heap.objs.size:=by
  obtain ⟨o,e,_⟩:=hl
  exact ay (ap e)
 refine wpAny_bind (wpAny_runValue (JE ((fN (A:=A.in1) hh _ l hzl items).toS) S ?_ ss (by rw [<-hi.length]; simp) (fun i v e=>Xr hi (by rw [bx]; exact e)) hb items.size 0 _ (by omega) (bt _) ⟨⟨_,ag _ rfl,rfl,rfl⟩,hl.push _⟩ ?_ ?_))
 ·intro z
  rcases ac.mp z with z | z
  ·exact hz z.symm
  ·exact hne (aC.mp z).symm
 ·exact hS.at fun o e=>aa _ e
 ·intro s' hm hS'
  obtain ⟨h',g',d',tk',os'⟩:=s'
  have eg:g'=s.gens:=hm.gens
  have ed:d'=s.drawn:=hm.drawn
  have eo:os'=s.os:=hm.os
  subst eg ed eo
  refine wpAny_pure (h h' tk' hS' fun b o hb e=>hm.heap b o ?_ (aa _ e))
  intro z
  rcases ac.mp z with z | z
  ·exact hb z
  ·rw [aC.mp z] at e
   exact bu _ (ap e)
theorem Uo {S l:Addr} {Q:Unit->Shared->Prop} (hh:A.handled=none) (hS:SetZ prog w s.heap S []) (hl:s.heap.IsTuple l items) (hi:IntsAre items.toList ss) (hb:items.size+1 < scanBound) (hne:l≠S)
  (h:∀ h' tk,SetZ prog w h' S (ss.foldl wu [])->(∀ b o,b≠S->s.heap.get? b=some o->h'.get? b=some o)->Q () { s with heap:=h',toks:=tk }) :
  wpAny (model prog w) A (aL "set.__init__" S (.ref l)) Q E s:=by
 have hT:s.TypeIs (.ref l) "tuple":=let ⟨o,e,c,_⟩:=hl; ⟨o,e,c⟩
 unfold aL
 refine wpAny_bind (m:=be _) ?_
 unfold be
 refine wpAny_bind (wpAny_isInstance hT xV ?_)
 refine wpAny_isInstance hT ur ?_
 rw [if_neg (by decide)]
 refine wpAny_bind (wpAny_typeOf hT ?_)
 rw [if_neg (by decide)]
 refine wpAny_bind (wpAny_pyIter_tuple hl ?_)
 have hz:s.heap.objs.size≠S:=fun z=>by
  obtain ⟨es,ep,t,ho,_⟩:=hS
  exact bu _ (z ▸ ap ho)
 have hzl:l≠s.heap.objs.size:=by
  obtain ⟨o,e,_⟩:=hl
  exact ay (ap e)
 refine wpAny_bind (wpAny_runValue (JE ((fK (A:=A.in1) hh _ l hzl items).toS) S ?_ ss (by rw [<-hi.length]; simp) (fun i v e=>Xr hi (by rw [bx]; exact e)) hb items.size 0 _ (by omega) (bt _) ⟨⟨_,ag _ rfl,rfl,rfl⟩,?_⟩ ?_ ?_))
 ·intro z
  rcases ac.mp z with z | z
  ·exact hz z.symm
  ·exact hne (aC.mp z).symm
 ·obtain ⟨o,e,c⟩:=hl
  exact ⟨o,aa _ e,c⟩
 ·exact hS.at fun o e=>aa _ e
 ·intro s' hm hS'
  obtain ⟨h',g',d',tk',os'⟩:=s'
  have eg:g'=s.gens:=hm.gens
  have ed:d'=s.drawn:=hm.drawn
  have eo:os'=s.os:=hm.os
  subst eg ed eo
  refine wpAny_pure (h h' tk' hS' fun b o hb e=>hm.heap b o ?_ (aa _ e))
  intro z
  rcases ac.mp z with z | z
  ·exact hb z
  ·rw [aC.mp z] at e
   exact bu _ (ap e)
set_option maxHeartbeats 3200000 in
theorem JF {l:Addr} {ks:List Int} {Q:Value->Shared->Prop}
  (hup:∀ (A1:Around) (Q1:Unit->Shared->Prop) (E1:Value->Shared->Prop),A1.handled=A.handled->(∀ h' tk,SetZ prog w h' s.heap.objs.size ks->(∀ b o,s.heap.get? b=some o->h'.get? b=some o)->Q1 () { s with heap:=h',toks:=tk }) ->
   wpAny (model prog w) A1 (aL "set.__init__" s.heap.objs.size (.ref l)) Q1 E1 { s with heap:=s.heap.push (Gt w) })
  (h:∀ h' tk,SetZ prog w h' s.heap.objs.size ks->(∀ b o,s.heap.get? b=some o->h'.get? b=some o)->Q (.ref s.heap.objs.size) { s with heap:=h',toks:=tk }) :
  wpAny (model prog w) A (call (.type "set") [.ref l]) Q E s:=by
 have hnew:∀ {Q₁:Value->Shared->Prop},Q₁ (.ref s.heap.objs.size) { s with heap:=s.heap.push (Gt w) }->codeAny (model prog w) A.in1 (.call (.builtin "set.__new__") ⟨[.type "set",.ref l],[]⟩) (wants Q₁ E) s:=fun h=>YQ (.ref l) h
 unfold Gt jC at hnew hup
 generalize (!(w.params.followText "set-order"))=led at hnew hup
 obtain ⟨c,tl,hmro⟩:=aQ.mro
 have hmade:=aQ.made
 have hsub:=aQ.sub
 refine wpAny_call (codeAny_of_tree ?_); show wpAny _ _ (callAny (.type "set") _) _ _ _
 refine wpAny_pure ⟨Code.quiet_builtin _ (by decide +kernel),codeAny_builtin PySem.F.entry_type_call ?_⟩; rw [Around.under_plain (weight_type_call_type "set" [.ref l] []) rfl]
 have h1:=aQ.notType
 have h2:=aQ.canCreate
 have hct:=PySem.F.typeCall_set_1 (.ref l)
 repeat (any_goals (first | assumption | wp_step))
 refine codeAny_mono (hnew (Q₁:=fun obj s₁=>obj=.ref s.heap.objs.size/\s₁={ s with heap:=s.heap.push { cls:=.type "set",dict:=none,data:=.set #[] 0 (.fresh 0 0 led) } }) ⟨rfl,rfl⟩) fun r s₁ hr=>?_
 cases r with
 | error e=>exact hr
 | ok fl=>
  cases fl with
  | ret obj=>
   obtain ⟨rfl,rfl⟩:=hr
   have hS:(s.heap.push { cls:=.type "set",dict:=none,data:=.set #[] 0 (.fresh 0 0 led) }).get? s.heap.objs.size=some { cls:=.type "set",dict:=none,data:=.set #[] 0 (.fresh 0 0 led) }:=ag _ rfl
   have hT:eF { s with heap:=s.heap.push { cls:=.type "set",dict:=none,data:=.set #[] 0 (.fresh 0 0 led) } } (.ref s.heap.objs.size) "set":=⟨_,hS,rfl⟩
   have hli:=aQ.init.lookup
   have hbi:=aQ.init.bind (.ref s.heap.objs.size)
   repeat (any_goals (first | assumption | wp_step))
   refine codeAny_mono (codeAny_call_builtin (R:=wants (fun r s₂=>r=.none/\∃ h' tk,s₂={ s with heap:=h',toks:=tk }/\SetZ prog w h' s.heap.objs.size ks/\(∀ b o,s.heap.get? b=some o->h'.get? b=some o)) E) aQ.init.plain PySem.F.entry_set_init (check_set_init_1 hT ?_)) fun r₂ s₂ hr₂=>?_
   ·unfold Builtin.«set.__init__» noKeywords
    generalize hU:aL=U
    wp_walk
    subst hU
    refine hup _ _ _ rfl fun h' tk hS' hk=>?_
    exact wpAny_pure ⟨rfl,h',tk,rfl,hS',hk⟩
   ·cases r₂ with
    | error e=>exact hr₂
    | ok fl₂=>
     cases fl₂ with
     | ret r=>
      obtain ⟨rfl,h',tk,rfl,hS',hk'⟩:=hr₂
      repeat (any_goals (first | assumption | wp_step))
      exact h _ _ hS' hk'
     | _=>exact hr₂.elim
  | _=>exact hr.elim
end
noncomputable def uZ:List D->Option (List Int)
 | []=>some []
 | .int x::l=>(uZ l).map (x::·)
 | _::_=>none
noncomputable def JG:D->Option (List Int)
 | .lst ds=>uZ ds
 | .tup ds=>uZ ds
 | _=>none
noncomputable def GE (P:Program) (w:World) (p:Addr) (ks:List Int):HO:=.ext fun h=>SetZ P w h p ks
variable {P:Program} {H:Hp}
theorem GF {p:Addr} (x:SetZ P w h p ks):ObjOk P w H h p (GE P w p ks):=
 ⟨x,let ⟨_,_,_,e,_⟩:=x; ⟨_,e⟩,fun _ _ a k=>a.at k⟩
variable {K:Frag} {F:Hp}
theorem Qd:∀ {vs:List V} {us:List Value} {ds:List D} {ss:List Int},IsL K F vs ds->Vals vs us->uZ ds=some ss->IntsAre us ss
 | [],[],[],ss,_,_,e=>by cases e; exact .nil
 | v::vs,u::us,d::ds,ss,.cons i il,.cons r rl,e=>by
  cases d with
  | int x=>
   cases q:uZ ds with
   | none=>
    have e:(uZ ds).map (x::·)=some ss:=e
    rw [q] at e
    cases e
   | some sl=>
    have e:(uZ ds).map (x::·)=some ss:=e
    rw [q] at e
    cases e
    cases i
    obtain ⟨t,rfl⟩:=r
    exact .cons x t (Qd il rl q)
  | _=>cases e
variable {e:Expr} {X:Cx} {C:Ct} {own:List Nat} {fa:Sl->Out (D×Sl)} {pos:Pos}
section
variable {ma:Mo}
theorem qb2 (hK:C.K=X.K) (hc:X.calm=true):um X (.type "set") (fun xs H Q=>∃ x F dx ss,xs=[x]/\Same F H/\TopIs C.K F H x dx/\JG dx=some ss/\ss.length < 4000/\∀ p,H p=none->Q (.ref p) (upd H p (GE X.prog X.w p (ss.foldl wu [])))):=by
 intro pins s σ H xs us Q I r h
 obtain ⟨x,F,dx,ss,rfl,sb,tx,es,hl,q⟩:=h
 obtain ⟨u,rfl,ru⟩:=xc r
 have fin:∀ h' tk,SetZ X.prog X.w h' s.heap.objs.size (ss.foldl wu [])->(∀ b o,s.heap.get? b=some o->h'.get? b=some o)->EP X pins σ Q (.ref s.heap.objs.size) { s with heap:=h',toks:=tk }:=fun h' tk hS kp=>
  ⟨.ref s.heap.objs.size,_,I.laid (t':=tk) kp (ax _) (GF hS),rfl,q _ (I.hok.fresh (ax _))⟩
 cases dx with
 | lst ds=>
  obtain ⟨a,vs,rfl,hq,il⟩:=tx.lst sb
  cases ru
  rw [hK] at hq
  obtain ⟨its,rv,pl,hz⟩:=I.list hq
  have st:=Qd il rv es
  have hlt:a < s.heap.objs.size:=let ⟨o,_,e,_⟩:=pl; ap e
  have hn:its.length=ss.length:=st.length
  refine JF (fun A1 Q1 E1 hA k=>?_) fin
  refine Xu (items:=its.toArray) (hA.trans (I.ok.hd hc)) (gq (ag _ rfl)) (pl.isList.push _) (by simpa using st) (by rw [ak,hn]; unfold scanBound; omega) (ay hlt) fun h' tk hS kp=>k h' tk hS fun b o eb=>kp b o (ay (ap eb)) (aa _ eb)
 | tup ds=>
  obtain ⟨a,vs,rfl,hq,il⟩:=tx.tup sb
  cases ru
  rw [hK] at hq
  obtain ⟨its,rv,pl,hz⟩:=I.tuple hq
  have st:=Qd il rv es
  have hlt:a < s.heap.objs.size:=pl.lt
  have hn:its.length=ss.length:=st.length
  refine JF (fun A1 Q1 E1 hA k=>?_) fin
  refine Uo (items:=its.toArray) (hA.trans (I.ok.hd hc)) (gq (ag _ rfl)) (by obtain ⟨o,e,c⟩:=pl; exact ⟨o,aa _ e,c⟩) (by simpa using st) (by rw [ak,hn]; unfold scanBound; omega) (ay hlt) fun h' tk hS kp=>k h' tk hS fun b o eb=>kp b o (ay (ap eb)) (aa _ eb)
 | _=>cases es
theorem qb3:um X (.builtin "len") (fun xs H Q=>∃ a ks,xs=[.ref a]/\H a=some (GE X.prog X.w a ks)/\Q (.int ks.length) H):=by
 intro pins s σ H xs us Q I r h
 obtain ⟨a,ks,rfl,ha,q⟩:=h
 obtain ⟨u,rfl,ru⟩:=xc r
 cases ru
 obtain ⟨es,ep,t,ho,d⟩:SetZ X.prog X.w s.heap a ks:=(I.hok a _ ha).1
 have hb:=d.bd
 refine call_len_set ho ⟨rfl,rfl,rfl⟩ rfl d.fits (by unfold scanBound at hb; omega) ?_
 exact ⟨.int ks.length,H,I.tok _,⟨_,by rw [d.size]⟩,q⟩
noncomputable def kK (d:D):Out D:=match JG d with
 | some ss=>if ss.length < 4000 then .ok (.int (ss.foldl wu []).length) else .bad
 | none=>.bad
theorem gt {p p2 pos2:Pos} (hK:C.K=X.K) (hc:X.calm=true) (hg:Gl X "len") (hm:X.mg "len"=none) (hv:bootBuiltins "len"=some (.builtin "len")) (hg2:Gl X "set") (hm2:X.mg "set"=none) (hv2:bootBuiltins "set"=some (.type "set")) (ha:PE X e (tE C own ma fa))
  (he:starEach [e] X.env=[(false,eval e X.env)]:=by exact qO rfl) (he2:starEach [.Call (.Name "set" p2) [e] [] pos2] X.env=[(false,eval (.Call (.Name "set" p2) [e] [] pos2) X.env)]:=by exact qO rfl) :
  PE X (.Call (.Name "len" p) [.Call (.Name "set" p2) [e] [] pos2] [] pos) (tE C own .sh (d1 kK fa)):=by
 refine jd (wW qb3 hg hm hv (qV (uK (qb2 hK hc) hg2 hm2 hv2 (qV ha jZ he) (by decide) (by decide) (by rw [he]; rfl) rfl) jZ he2) (by decide) (by decide) (by rw [he2]; rfl) rfl) fun σ H Q h=>?_
 refine gX (xN (ma:=ma) h) fun x H1 ⟨x',F,dx,ex,sb,tx,po⟩=>?_
 cases ex
 unfold kK at po
 cases es:JG dx with
 | none=>
  rw [es] at po
  exact po.elim
 | some ss=>
  rw [es] at po
  have po:PoV C .sh F H1 (if ss.length < 4000 then .ok (.int (ss.foldl wu []).length) else .bad) Q:=po
  by_cases hl:ss.length < 4000
  ·rw [if_pos hl] at po
   refine ⟨x,F,dx,ss,rfl,sb,tx,es,hl,fun q hq=>⟨q,_,rfl,qm,?_⟩⟩
   obtain ⟨s1,c1,f1⟩:=wy (u:=GE X.prog X.w q (ss.foldl wu [])) sb hq
   exact po _ _ _ s1 c1 (.int _)
  ·rw [if_neg hl] at po
   exact po.elim
end
noncomputable def vj (f:Str) (d:D):List (Str×D)->List (Str×D)
 | []=>[(f,d)]
 | (g,x)::r=>if g=f then (g,d)::r else (g,x)::vj f d r
variable {v:V} {f:Str} {d:D} {c:Addr}
section
theorem IsF.put (h:Is K F v d):∀ {fv:List (Str×V)} {fs:List (Str×D)},IsF K F fv fs->IsF K F (xC f v fv) (vj f d fs)
 | _,_,.nil=>.cons h .nil
 | _,_,.cons (k:=k) q t=>by
  unfold xC vj
  by_cases z:k=f
  ·rw [if_pos z,if_pos z]; exact .cons h t
  ·rw [if_neg z,if_neg z]; exact .cons q (IsF.put h t)
theorem IsF.get:∀ {fv:List (Str×V)} {fs:List (Str×D)},IsF K F fv fs->fs.lookup f=some d->∃ v,fv.lookup f=some v/\Is K F v d
 | _,_,.nil,e=>by cases e
 | _,_,.cons (k:=k) q t,e=>by
  rw [cT] at e ⊢
  cases z:f == k with
  | true=>rw [z] at e; cases e; exact ⟨_,rfl,q⟩
  | false=>rw [z] at e; exact IsF.get t e
theorem IsF.non:∀ {fv:List (Str×V)} {fs:List (Str×D)},IsF K F fv fs->fs.lookup f=none->fv.lookup f=none
 | _,_,.nil,e=>rfl
 | _,_,.cons (k:=k) q t,e=>by
  rw [cT] at e ⊢
  cases z:f == k with
  | true=>rw [z] at e; cases e
  | false=>rw [z] at e; exact IsF.non t e
theorem IsF.length:∀ {fv:List (Str×V)} {fs:List (Str×D)},IsF K F fv fs->fv.length=fs.length
 | _,_,.nil=>rfl
 | _,_,.cons _ t=>congrArg (·+1) t.length
theorem TopIs.ins {fs:List (Str×D)} (s:Same F H) (h:TopIs K F H v (.ins c fs)):∃ a dx fv,v=.ref a/\H a=some (.ins c dx fv)/\IsF K F fv fs:=by
 rcases h with h | ⟨a,rfl,dx,fv,e,t⟩
 ·cases h with
  | ins e t=>exact ⟨_,_,_,rfl,s _ _ e,t⟩
 ·exact ⟨a,dx,fv,rfl,e,t⟩
end
noncomputable def zS (c:Addr) (f:Str):D->Out D
 | .ins k fs=>if k=c then (match fs.lookup f with | some d=>.ok d | none=>.bad) else .bad
 | _=>.bad
noncomputable def Xv (c:Addr) (i:Nat) (f:Str) (fe:Sl->Out (D×Sl)):Sl->Out (Fl×Sl):=fun ρ=>(fe ρ).bind fun p=>match p.2[i]? with
 | some (some (.ins k fs))=>if k=c/\fs.length < 1000 then .ok (.nx,p.2.set i (some (.ins k (vj f p.1 fs)))) else .bad
 | _=>.bad
variable {x:Str} {m mo:Mo} {o:Expr} {fe fo:Sl->Out (D×Sl)} {p1 p2:Pos}
section
variable {es:List Expr}
theorem wH (hK:C.K=X.K) (hc:Cls X.K c) (hn:NoAttr X.K c f) (he:PE X e (tE C own m fa)) (hb:attributeBase e f X.env (eval e X.env)=eval e X.env:=by rfl):PE X (.Attribute e f pos) (tE C own .sh (d1 (zS c f) fa)):=by
 refine jd (qax he hb) fun σ H Q h=>gX (Yd (ma:=m) h) fun x H1 ⟨F,dx,sb,tx,po⟩=>?_
 cases dx with
 | ins k fs=>
  replace po:PoV C .sh F H1 (if k=c then (match fs.lookup f with | some d=>.ok d | none=>.bad) else .bad) Q:=po
  by_cases z:k=c
  ·subst z
   rw [if_pos rfl] at po
   cases q:fs.lookup f with
   | none=>rw [q] at po; exact po.elim
   | some d=>
    rw [q] at po
    obtain ⟨a,dx,fv,rfl,ea,t⟩:=tx.ins sb
    obtain ⟨v,l,is⟩:=t.get q
    exact ⟨a,k,dx,fv,v,rfl,ea,hc,hn,l,po v F H1 sb .refl is⟩
  ·rw [if_neg z] at po; exact po.elim
 | _=>exact po.elim
theorem KO (hK:C.K=X.K) (hc:Cls X.K c) (hn:NoAttr X.K c f) (hi:X.N[i]?=some x) (hv:Vis X.env.scope x) (ho:i∈own) (he:PE X e (tE C own m fe)) (hm:m≠.any:=by decide) (hd:(x == ("__debug__":Str))=false:=by decide) (hcd:(x == ("__classdict__":Str))=false:=by decide)
  (hs:swapsWith e (some (.Attribute (.Name x p1) f p2)) pos.line X.env=pure false:=by rfl):PS X (.Assign [.Attribute (.Name x p1) f p2] e pos) (tSt C own own (Xv c i f fe)):=by
 refine zM (UQ (vm hi hv hd hcd) (vg he hm) hs) fun D σ H ⟨F,ρ,rp,h⟩=>⟨F,ρ,rp,PoS.bindE h fun v F1 H1 d ρ1 rp1 c1 mo1 h1=>?_⟩
 obtain ⟨d0,hd0⟩:=rp1.opn i ho
 obtain ⟨a,e1,hF,o0⟩:=rp1.ow i d0 ho hd0
 simp only [hd0] at h1
 cases d0 with
 | ins k fs=>
  by_cases z:k=c/\fs.length < 1000
  ·simp only [if_pos z] at h1
   obtain ⟨rfl,hl⟩:=z
   obtain ⟨dx,fv,ea,t⟩:=o0
   obtain ⟨rw1,cw1⟩:=rp1.write (u:=.ins k dx (xC f v fv)) (d:=.ins k (vj f d fs)) ho e1 ⟨dx,_,qm,t.put mo1⟩
   exact ⟨_,e1,a,k,dx,fv,rfl,ea,hc,hn,by rw [t.length]; exact hl,h1 σ F1 _ ⟨rw1,cw1,fun _ z=>.inl z,fun _ _=>rfl⟩⟩
  ·simp only [if_neg z] at h1; exact h1.elim
 | _=>exact h1.elim
def Xw (P:Program) (w:World) (K:Frag) (mg:Str->Option Value) (base:Heap) (cv:Str->Value) (k:Nat) (c:Addr) (x:Str) (ps:List Str) (ms:List PM) (mr:Mo) (G:List D->Out (D×List D)):Prop:=
 ∃ f fd,FnOk P w K mg base (CXk P w) k f fd ps (spD K cv ms mr G)/\Meth K c x f/\Binds K fd ps []
noncomputable def Zv:List AK->Bool
 | []=>true
 | .vl::l=>Zv l
 | _::_=>false
theorem qdO {K:Frag} {H0 F F' H H':Hp} {σ:St} (g:Same F F'):∀ {as:List AK} {vs:List V} {ds:List D},Zv as=true->ArgV K H0 F H σ as vs ds->ArgsIs K F' H' (as.map wA) vs ds/\wz (as.map wA) vs=[]
 | [],[],[],_,_=>⟨trivial,rfl⟩
 | .vl::as,v::vs,d::ds,h,a=>by
  have ih:=qdO (H':=H') g (as:=as) h a.2
  exact ⟨⟨a.1.mono g,ih.1⟩,ih.2⟩
 | [],_::_,_,_,a=>a.elim
 | [],[],_::_,_,a=>a.elim
 | .vl::_,[],_,_,a=>a.elim
 | .vl::_,_::_,[],_,a=>a.elim
 | .sl _::_,_,_,h,_=>by cases h
 | .fr::_,_,_,h,_=>by cases h
end
variable {own1:List Nat} {σ:St} {ρ:Sl} {u:HO} {b:Addr}
section
theorem Rep.blind (rp:Rep K own F H σ ρ) (h1:∀ j,j∈own1↔j∈own/\j≠i):Rep K own1 F H σ (ρ.set i none) where
 sub:=rp.sub
 len:=by simp [rp.len]
 val:=fun j d hj e=>by
  by_cases q:j=i
  ·subst q
   by_cases z:j < ρ.length
   ·rw [aF z] at e; cases e
   ·rw [cF (by simpa using z)] at e; cases e
  ·rw [ad (aX q)] at e
   exact rp.val j d (fun z=>hj ((h1 j).mpr ⟨z,q⟩)) e
 ow:=fun j d hj e=>by
  have hj':=(h1 j).mp hj
  rw [ad (aX hj'.2)] at e
  exact rp.ow j d hj'.1 e
 opn:=fun j hj=>by
  have hj':=(h1 j).mp hj
  rw [ad (aX hj'.2)]
  exact rp.opn j hj'.1
 dis:=fun j k a hj hk=>rp.dis j k a ((h1 j).mp hj).1 ((h1 k).mp hk).1
theorem Rep.see (rp:Rep K own1 F H σ ρ) (h1:∀ j,j∈own1↔j∈own/\j≠i) (hi:i∈own) (ea:σ[i]?=some (some (V.ref a))) (hF:F a=none) (nA:¬OA own1 σ a) (ow:OwnIs K F H a d):Rep K own F H σ (ρ.set i (some d)):=by
 have hl:i < ρ.length:=by rw [<-rp.len]; exact (aE.mp ea).1
 refine ⟨rp.sub,by simp [rp.len],fun j d' hj e=>?_,fun j d' hj e=>?_,fun j hj=>?_,fun j k b hj hk e1 e2=>?_⟩
 ·have q:j≠i:=fun z=>hj (by rw [z]; exact hi)
  rw [ad (aX q)] at e
  exact rp.val j d' (fun z=>hj ((h1 j).mp z).1) e
 ·by_cases q:j=i
  ·subst q
   rw [aF hl] at e
   cases e
   exact ⟨a,ea,hF,ow⟩
  ·rw [ad (aX q)] at e
   exact rp.ow j d' ((h1 j).mpr ⟨hj,q⟩) e
 ·by_cases q:j=i
  ·subst q; exact ⟨d,aF hl⟩
  ·rw [ad (aX q)]
   exact rp.opn j ((h1 j).mpr ⟨hj,q⟩)
 ·by_cases qj:j=i
  ·by_cases qk:k=i
   ·rw [qj,qk]
   ·rw [qj,ea] at e1
    cases e1
    exact absurd ⟨k,(h1 k).mpr ⟨hk,qk⟩,e2⟩ nA
  ·by_cases qk:k=i
   ·rw [qk,ea] at e2
    cases e2
    exact absurd ⟨j,(h1 j).mpr ⟨hj,qj⟩,e1⟩ nA
   ·exact rp.dis j k b ((h1 j).mpr ⟨hj,qj⟩) ((h1 k).mpr ⟨hk,qk⟩) e1 e2
theorem Rep.off {x:Addr} (rp:Rep K own F H σ ρ) (hF:F x=none) (nA:¬OA own σ x):Rep K own F (upd H x u) σ ρ where
 sub:=fun b o e=>by rw [qr (qx e hF)]; exact rp.sub b o e
 len:=rp.len
 val:=rp.val
 ow:=fun j d hj e=>by
  obtain ⟨a,h1,h2,h3⟩:=rp.ow j d hj e
  exact ⟨a,h1,h2,h3.grow (Same.refl _) fun o q=>by rw [qr (fun z=>nA ⟨j,hj,by rw [<-z]; exact h1⟩)]; exact q⟩
 opn:=rp.opn
 dis:=rp.dis
theorem Rep.frz {o:HO} (rp:Rep K own F H σ ρ) (hb:H b=some o) (hF:F b=none) (nA:¬OA own σ b):Rep K own (upd F b o) H σ ρ:=by
 have gr:Same F (upd F b o):=fun c w e=>by rw [qr (qx e hF)]; exact e
 refine ⟨fun c w e=>?_,rp.len,fun j d hj e=>?_,fun j d hj e=>?_,rp.opn,rp.dis⟩
 ·by_cases q:c=b
  ·subst q; rw [qm] at e; cases e; exact hb
  ·rw [qr q] at e; exact rp.sub c w e
 ·obtain ⟨v,h1,h2⟩:=rp.val j d hj e
  exact ⟨v,h1,h2.mono gr⟩
 ·obtain ⟨a,h1,h2,h3⟩:=rp.ow j d hj e
  exact ⟨a,h1,by rw [qr (fun z=>nA ⟨j,hj,by rw [<-z]; exact h1⟩)]; exact h2,h3.grow gr fun _ q=>q⟩
theorem Chg.put {A:Addr->Prop} {F H:Hp} (hA:A b):Chg A F H F (upd H b u):=
 ⟨fun c o e n=>by rw [qr (fun z=>n (by rw [z]; exact hA))]; exact e,fun c h=>by
  by_cases q:c=b
  ·rw [q,qm]; simp
  ·rw [qr q]; exact h,Same.refl _,fun _ h=>.inl h⟩
end
noncomputable def zT (g:D->Sl->Out Sl) (fw fx:Sl->Out (D×Sl)):List D->List D->Sl->Out (List D×Sl)
 | [],ds,ρ=>.ok (ds,ρ)
 | d::l,ds,ρ=>match g d ρ with
  | .ok ρ1=>match fw ρ1 with
   | .ok (w,ρ2)=>match fx ρ2 with
    | .ok (.int k,ρ3)=>match ixN ds.length k with
     | some j=>zT g fw fx l (ds.set j w) ρ3
     | none=>.bad
    | _=>.bad
   | _=>.bad
  | _=>.bad
variable {fw fx:Sl->Out (D×Sl)} {ds:List D}
theorem Up {g:D->Sl->Out Sl} {l dE:List D} {ρE:Sl} (h:zT g fw fx (d::l) ds ρ=.ok (dE,ρE)) :
  ∃ ρ1 w ρ2 k ρ3 j,g d ρ=.ok ρ1/\fw ρ1=.ok (w,ρ2)/\fx ρ2=.ok (.int k,ρ3)/\ixN ds.length k=some j/\zT g fw fx l (ds.set j w) ρ3=.ok (dE,ρE):=by
 unfold zT at h
 split at h
 ·rename_i ρ1 e1
  split at h
  ·rename_i w ρ2 e2
   split at h
   ·rename_i k ρ3 e3
    split at h
    ·rename_i j e4
     exact ⟨ρ1,w,ρ2,k,ρ3,j,e1,e2,e3,e4,h⟩
    ·cases h
   ·cases h
  ·cases h
 ·cases h
noncomputable def ctB (C:Ct):Ct:={ C with ox:=[],oxs:=fun _ h=>by cases h }
structure FillW (C:Ct) (own1:List Nat) (σ:St) (F1 H2 F3:Hp) (b:Addr) (g:D->Sl->Out Sl) (fw fx:Sl->Out (D×Sl)) (items dE:List D) (ρE:Sl) (j:Nat) (σ':St) (F' H':Hp) (ρ':Sl) (xs:List V) (dk:List D):Prop where
 rep:Rep C.K own1 F' H' σ' ρ'
 chg:Chg (fun z=>OA own1 σ z\/z=b) F1 H2 F' H'
 oa:∀ z,OA own1 σ' z->OA own1 σ z\/H2 z=none
 io:∀ j∈C.io,σ'[j]?=σ[j]?
 hb:H' b=some (.lst xs)
 fb:F' b=none
 is:IsL C.K F' xs dk
 gr:Same F3 F'
 run:zT g fw fx (items.drop j) dk ρ'=.ok (dE,ρE)
theorem qfq {b:List Nat} (h:decide (i∈b)=true):i∈b:=of_decide_eq_true h
def zU (K:Frag) (c:Addr) (x qual:Str) (st:Stmt) (ps:List Str):Prop:=∃ f fd,Fun K x qual st f fd/\Meth K c x f/\Binds K fd ps []
def qb4 (K:Frag) (c:Addr) (qual:Str) (st:Stmt) (ps:List Str):Prop:=∃ f fd,Fun K "__init__" qual st f fd/\Mk K c f/\Binds K fd ps []
variable {mg:Str->Option Value} {base:Heap} {cv:Str->Value} {qual:Str} {st:Stmt} {N ps:List Str} {ms:List PM} {mr:Mo} {own':List Nat} {fb:Sl->Out (Fl×Sl)}
section
variable {k:Nat}
theorem qb5 (T:zU K c x qual st ps) (S:FnScope N ps (qd st))
  (hbody:∀ (cdv:Value) (f:Addr) (A:Around) (outer:List Env) (s:Shared) (H:Hp) (E:XK),Room k (A.deeper (envOfC qual (qd st) s.heap.objs.size f cdv)) ->
   PSs (cxk P w K mg base N qual (qd st) f cdv A outer s H E) (jz st) (tSt (Ki K cv E ms mr) (jv 0 ms) own' fb))
  (hl:ms.length=ps.length:=by rfl) (hsub:∀ i∈Jh 0 ms,i∈own':=by exact wl rfl) (hmr:mr=.sh\/∀ ds ρ,(fb (qv N ds))≠.ok (.nx,ρ):=by exact .inl rfl):Xw P w K mg base cv (k+1) c x ps ms mr (vE N ms fb):=by
 obtain ⟨f,fd,F,hm,hb⟩:=T
 exact ⟨f,fd,qfJ F S hl hsub hmr (fun cdv A outer s H E hr=>hbody cdv f A outer s H E hr) fun _=>.inr rfl,hm,hb⟩
end
noncomputable def qdP (i j:Nat) (fr:Sl->Out (List D×Sl)):Sl->Out (Fl×Sl):=fun ρ=>(fr ρ).bind fun p=>match p.1 with
 | [d,e]=>if i < p.2.length/\j < p.2.length then .ok (.nx,(p.2.set i (some d)).set j (some e)) else .bad
 | _=>.bad
variable {j:Nat}
section
variable {fr:Sl->Out (List D×Sl)}
theorem qb6 {y:Str} {a b:Expr} {px py pt pos pt2:Pos} {kt k2} (hc:X.calm=true) (hN:X.N.Nodup) (hi:X.N[i]?=some x) (hj:X.N[j]?=some y) (hx:X.env.scope.names.lookup x=some .local) (hy:X.env.scope.names.lookup y=some .local) (ha:PA X [a,b] (tAr C own [.vl,.vl] fr))
  (hij:i≠j:=by decide) (oi:i∉own:=by decide) (oj:j∉own:=by decide) (ii:i∉C.io:=by exact uo rfl) (ij:j∉C.io:=by exact uo rfl)
  (hw:swappedStores [.Tuple [.Name x px,.Name y py] kt pt] (.Tuple [a,b] k2 pt2) X.env=pure (some [x,y]):=by rfl) (hs:swapsWithSole [.Tuple [.Name x px,.Name y py] kt pt] (.Tuple [a,b] k2 pt2) pos.line X.env=pure false:=by rfl) :
  PS X (.Assign [.Tuple [.Name x px,.Name y py] kt pt] (.Tuple [a,b] k2 pt2) pos) (tSt C own own (qdP i j fr)):=by
 refine zM (qau hc hN hi hj hij hx hy ha hw hs) fun D σ H ⟨F,ρ,rp,h⟩=>⟨F,ρ,rp,?_⟩
 unfold qdP at h
 cases q:fr ρ with
 | exc c o=>rw [q] at h; exact h
 | bad=>rw [q] at h; exact h.elim
 | ok p=>
  obtain ⟨ds,ρ1⟩:=p
  rw [q,Out.ok_bind] at h
  intro vs F1 H1 rp1 c1 av
  match vs,ds,av,h with
  | [v,w],[d,e],av,h=>
   have h:PoS C own own σ F H (if i < ρ1.length/\j < ρ1.length then .ok (.nx,(ρ1.set i (some d)).set j (some e)) else .bad) D:=h
   by_cases z:i < ρ1.length/\j < ρ1.length
   ·rw [if_pos z] at h
    have r1:=rp1.put z.1 av.1
    have r2:=r1.put (i:=j) (by rw [bn]; exact z.2) av.2.1
    rw [jw (own:=vU own [i]) (by rw [jw oi]; exact oj),jw oi] at r2
    refine ⟨v,w,rfl,h _ F1 H1 ⟨r2,c1,fun b ⟨k,hk,ek⟩=>.inl ⟨k,hk,?_⟩,fun k hk=>?_⟩⟩
    ·rw [ad (fun z=>oj (by rw [z]; exact hk)),ad (fun z=>oi (by rw [z]; exact hk))] at ek
     exact ek
    ·rw [ad (fun z=>ij (by rw [z]; exact hk)),ad (fun z=>ii (by rw [z]; exact hk))]
   ·rw [if_neg z] at h; exact h.elim
  | [],[],av,h=>exact av.elim
  | [],_::_,av,h=>exact av.elim
  | [_],[],av,h=>exact av.elim
  | [_],_::_,av,h=>exact av.2.elim
  | [_,_],[],av,h=>exact av.elim
  | [_,_],[_],av,h=>exact av.2.elim
  | [_,_],_::_::_::_,av,h=>exact av.2.2.elim
  | _::_::_::_,[],av,h=>exact av.elim
  | _::_::_::_,[_],av,h=>exact av.2.elim
  | _::_::_::_,[_,_],av,h=>exact av.2.2.elim
  | _::_::_::_,_::_::_::_,av,h=>exact av.2.2.elim
end
section
theorem vr (i:Nat) (hN:X.N[i]?=some x:=by rfl) (hv:Vis X.env.scope x:=by first | exact aI rfl | exact c9 (aI rfl) | exact c9 (c9 rfl)) (ho:i∉own:=by decide) (hd:(x == ("__debug__":Str))=false:=by decide) (hcd:(x == ("__classdict__":Str))=false:=by decide):PE X (.Name x pos) (tE C own .sh (qg i)):=qdi hN hv ho hd hcd
end
noncomputable def JH (c:Addr) (i:Nat) (fl:Str) (fe:Sl->Out (D×Sl)) (fi:Sl->Out (List D×Sl)) (g:D->Sl->Out Sl) (fw fx:Sl->Out (D×Sl)):Sl->Out (Fl×Sl):=fun ρ=>(fe ρ).bind fun p=>match p.1,p.2[i]? with
 | .lst ds,some (some (.ins k fs))=>if k=c/\fs.length < 1000 then (match fi (p.2.set i none) with
  | .ok q=>(match zT g fw fx q.1 ds q.2 with
   | .ok r=>.ok (.nx,r.2.set i (some (.ins k (vj fl (.lst r.1) fs))))
   | _=>.bad)
  | _=>.bad) else .bad
 | _,_=>.bad
variable {mx:Mo} {ix:Expr}
section
variable {mw:Mo} {w tg iter:Expr} {rest:List Stmt} {fi:Sl->Out (List D×Sl)} {g:D->Sl->Out Sl} {fr:Sl->Out (Fl×Sl)} {fl:Str} {p3 p4 p5 p6 p7 p8:Pos}
theorem Xx {u:TS} (hK:C.K=X.K) (h1:∀ j,j∈own1↔j∈own/\j≠i) (hc:Cls X.K c) (hn:NoAttr X.K c fl) (hN:X.N[i]?=some x) (hv:Vis X.env.scope x) (ho:i∈own) (hio:i∈C.io) (hp:PassesOwn (model X.prog X.w) X.A X.env X.xe) (hcalm:X.calm=true)
  (he:PE X e (tE C own .fr fe)) (hi:PI X tg iter (tIt (ctB C) own1 fi)) (hg:PG X tg (tGd (ctB C) own1 g)) (hw:PE X w (tE (ctB C) own1 mw fw)) (hx:PE X ix (tE (ctB C) own1 mx fx)) (hrest:PSs X rest u) (hmw:mw≠.any:=by decide)
  (hd:(x == ("__debug__":Str))=false:=by decide) (hcd:(x == ("__classdict__":Str))=false:=by decide)
  (hs:swapsWith e (some (.Attribute (.Name x p1) fl p2)) p3.line X.env=pure false:=by rfl) (hs2:∀ x,foldedSetIterable iter X.env x=pure x:=by intro _; rfl)
  (hb:attributeBase (.Name x p4) fl X.env (eval (.Name x p4) X.env)=eval (.Name x p4) X.env:=by rfl)
  (hsub:∀ v,assign (.Subscript (.Attribute (.Name x p4) fl p5) ix p6) X.env v=(do
   let ov <-holding [v] (eval (.Attribute (.Name x p4) fl p5) X.env)
   let iv <-holding [v,ov] (eval ix X.env)
   standAt p6
   holding [v,ov,iv] (setItem ov iv v)
   release [v,ov,iv] []):=by intro _; rfl)
  (ha1:swapsWithSole [.Subscript (.Attribute (.Name x p4) fl p5) ix p6] w p7.line X.env=pure false:=by rfl) (ha2:swappedStores [.Subscript (.Attribute (.Name x p4) fl p5) ix p6] w X.env=pure none:=by rfl)
  (ha3:(assignEach [.Subscript (.Attribute (.Name x p4) fl p5) ix p6] X.env).map (·.2)=[assign (.Subscript (.Attribute (.Name x p4) fl p5) ix p6) X.env]:=by rfl) :
  PSs X (.Assign [.Attribute (.Name x p1) fl p2] e p3::.For tg iter [.Assign [.Subscript (.Attribute (.Name x p4) fl p5) ix p6] w p7] [] p8::rest) (Zz (tSt C own own (JH c i fl fe fi g fw fx)) u):=by
 refine Je (wU (UQ (vm hN hv hd hcd) he hs) (wU (qav hp hcalm hi hg (Km (qas (vg hw hmw) (qc0 (qax (vm hN hv hd hcd) hb) hx ZO hsub) ha1 ha2 ha3)) hs2) hrest)) fun D σ H ⟨F,ρ,rp,h⟩=>?_
 refine ⟨F,ρ,rp,?_⟩
 unfold JH at h
 cases q00:fe ρ with
 | exc y o=>rw [q00] at h; exact h
 | bad=>rw [q00] at h; exact h.elim
 | ok p0=>
 obtain ⟨d,ρ1⟩:=p0
 rw [q00] at h
 rw [Out.ok_bind] at h
 have h1':=h
 intro v F1 H1 rp1 c1 mo1
 obtain ⟨b,rfl,hHb,hFb,owb⟩:=mo1
 obtain ⟨d0,hd0⟩:=rp1.opn i ho
 obtain ⟨a,e1,hFa,o0⟩:=rp1.ow i d0 ho hd0
 cases d with
 | lst ds=>
  simp only [hd0] at h1'
  cases d0 with
  | ins k fs=>
   by_cases z:k=c/\fs.length < 1000
   ·simp only [if_pos z] at h1'
    obtain ⟨rfl,hl⟩:=z
    obtain ⟨dx,fv,ea,t⟩:=o0
    obtain ⟨xs0,hb0,is0⟩:=owb
    have oaH:∀ {z:Addr},OA own1 σ z->H z≠none:=fun {z} q=>by
     obtain ⟨j,hj,ej⟩:=q
     exact (rp.OA_there ⟨j,((h1 j).mp hj).1,ej⟩).1
    have nAb:¬OA own1 σ b:=fun q=>oaH q hHb
    have nAa:¬OA own1 σ a:=fun q=>by
     obtain ⟨j,hj,ej⟩:=q
     exact ((h1 j).mp hj).2 (rp1.dis j i a ((h1 j).mp hj).1 ho ej e1)
    have hHa:H a≠none:=(rp.OA_there ⟨i,ho,e1⟩).1
    have nab:a≠b:=fun q=>hHa (by rw [q]; exact hHb)
    refine ⟨_,e1,a,k,dx,fv,rfl,ea,hc,hn,by rw [t.length]; exact hl,?_⟩
    generalize eo:HO.ins k dx (xC fl (.ref b) fv)=o
    have rpB:Rep C.K own1 F1 (upd H1 a o) σ (ρ1.set i none):=(rp1.blind h1).off hFa nAa
    have hb2:(upd H1 a o) b=some (.lst xs0):=by rw [qr (aX nab)]; exact hb0
    refine ⟨F1,ρ1.set i none,rpB,?_⟩
    cases q:fi (ρ1.set i none) with
    | exc y o=>simp only [q] at h1'; exact h1'.elim
    | bad=>simp only [q] at h1'; exact h1'.elim
    | ok pq=>
     obtain ⟨items,ρ2⟩:=pq
     simp only [q] at h1'
     cases q2:zT g fw fx items ds ρ2 with
     | exc y o=>simp only [q2] at h1'; exact h1'.elim
     | bad=>simp only [q2] at h1'; exact h1'.elim
     | ok pr=>
      obtain ⟨dE,ρE⟩:=pr
      simp only [q2] at h1'
      intro J F3 H3 rp3 c3 it
      have keepA:∀ {F' H'},Chg (fun z=>OA own1 σ z\/z=b) F1 (upd H1 a o) F' H'->H' a=some o/\F' a=none:=fun {F' H'} cc=>by
       refine ⟨cc.keep a o qm fun z=>z.elim nAa nab,?_⟩
       cases qa:F' a with
       | none=>rfl
       | some u=>
        rcases cc.new a (by rw [qa]; simp) with z | z | z
        ·exact absurd hFa z
        ·rw [qm] at z; cases z
        ·exact (z.elim nAa nab).elim
      have w0:FillW C own1 σ F1 (upd H1 a o) F3 b g fw fx items dE ρE 0 σ F3 H3 ρ2 xs0 ds:=by
       refine ⟨rp3,c3.mono fun _ z=>.inl z,fun _ z=>.inl z,fun _ _=>rfl,c3.keep b _ hb2 nAb,?_,is0.mono c3.grow,Same.refl _,q2⟩
       cases qb:F3 b with
       | none=>rfl
       | some u=>
        rcases c3.new b (by rw [qb]; simp) with z | z | z
        ·exact absurd hFb z
        ·rw [hb2] at z; cases z
        ·exact absurd z nAb
      refine ⟨fun j m σ' H'=>m=items.length - j/\j<=items.length/\∃ F' ρ' xs dk,FillW C own1 σ F1 (upd H1 a o) F3 b g fw fx items dE ρE j σ' F' H' ρ' xs dk,⟨items.length,by simp,bt _,F3,ρ2,xs0,ds,w0⟩,?_⟩
      rintro j m σ' H' ⟨rfl,hle,F',ρ',xs,dk,W⟩
      have nb':¬OA own1 σ' b:=fun z=>by
       rcases W.oa b z with z | z
       ·exact nAb z
       ·rw [hb2] at z; cases z
      have na':¬OA own1 σ' a:=fun z=>by
       rcases W.oa a z with z | z
       ·exact nAa z
       ·rw [qm] at z; cases z
      by_cases hlt:j < items.length
      ·have hd:items.drop j=items[j]::items.drop (j+1):=dB hlt
       have run:=W.run
       rw [hd] at run
       obtain ⟨r1,wd,r2,kk,r3,jj,g1,g2,g3,g4,run'⟩:=Up run
       refine .inr ⟨it.go j H' hlt (W.gr.trans W.rep.sub),fun σ2 H2=>items.length - (j+1)=items.length - (j+1)/\j+1<=items.length/\∃ F' ρ' xs dk,FillW C own1 σ F1 (upd H1 a o) F3 b g fw fx items dE ρE (j+1) σ2 F' H2 ρ' xs dk,fun σ2 H2 z=>⟨items.length - (j+1),by omega,z⟩,fun xv H2 y=>?_⟩
       obtain ⟨F2,c2,s2,is2⟩:=it.yld j F' H' xv H2 items[j] (by simp [hlt]) W.gr W.rep.sub y
       refine ⟨F2,ρ',items[j],W.rep.grow c2 s2,is2,r1,g1,fun σ3 rp3' oa3 io3=>⟨F2,r1,rp3',?_⟩⟩
       rw [g2]
       intro wv F4 H4 rp4 c4 mo4
       have b3:∀ {z:Addr},OA own1 σ3 z->OA own1 σ z\/(upd H1 a o) z=none:=fun {z} q=>W.oa z (oa3 z q)
       have nb3:¬OA own1 σ3 b:=fun z=>nb' (oa3 b z)
       have na3:¬OA own1 σ3 a:=fun z=>na' (oa3 a z)
       have C2:Chg (fun z=>OA own1 σ z\/z=b) F1 (upd H1 a o) F2 H2:=W.chg.trans' c2.ofNo
       have C4:Chg (fun z=>OA own1 σ z\/z=b) F1 (upd H1 a o) F4 H4:=C2.trans c4 fun z q=>(b3 q).imp .inl id
       have ea3:σ3[i]?=some (some (V.ref a)):=by rw [io3 i hio,W.io i hio]; exact e1
       have hl4:(xC fl (V.ref b) fv).lookup fl=some (V.ref b):=by rw [uz,if_pos rfl]
       refine ⟨_,ea3,a,k,dx,_,_,rfl,by rw [eo]; exact (keepA C4).1,hc,hn,hl4,F4,r2,rp4,?_⟩
       rw [g3]
       intro iv F5 H5 rp5 c5 mo5
       have hiv:iv=.int kk:=mo5.top.int
       subst hiv
       have C5:Chg (fun z=>OA own1 σ z\/z=b) F1 (upd H1 a o) F5 H5:=C4.trans c5 fun z q=>(b3 q).imp .inl id
       have hb5:H5 b=some (.lst xs):=c5.keep b _ (c4.keep b _ (c2.keep b _ W.hb fun z=>z) nb3) nb3
       have fb2:F2 b=none:=by
        cases qb:F2 b with
        | none=>rfl
        | some u=>
         rcases c2.new b (by rw [qb]; simp) with z | z | z
         ·exact absurd W.fb z
         ·rw [W.hb] at z; cases z
         ·exact z.elim
       have fb4:F4 b=none:=by
        cases qb:F4 b with
        | none=>rfl
        | some u=>
         rcases c4.new b (by rw [qb]; simp) with z | z | z
         ·exact absurd fb2 z
         ·rw [c2.keep b _ W.hb fun z=>z] at z; cases z
         ·exact absurd z nb3
       have fb5:F5 b=none:=by
        cases qb:F5 b with
        | none=>rfl
        | some u=>
         rcases c5.new b (by rw [qb]; simp) with z | z | z
         ·exact absurd fb4 z
         ·rw [c4.keep b _ (c2.keep b _ W.hb fun z=>z) nb3] at z; cases z
         ·exact absurd z nb3
       have gr5:Same F' F5:=(c2.grow.trans c4.grow).trans c5.grow
       have mo4:Is C.K F4 wv wd:=mo4
       refine ⟨b,xs,kk,jj,rfl,rfl,hb5,by rw [W.is.length]; exact g4,rfl,hlt,F5,r3,xs.set jj wv,dk.set jj wd,?_⟩
       refine ⟨rp5.off fb5 nb3,C5.trans' (Chg.put (.inr rfl)),fun z q=>b3 q,fun n hn'=>(io3 n hn').trans (W.io n hn'),qm,fb5,(W.is.mono gr5).set (mo4.mono c5.grow) jj,W.gr.trans gr5,run'⟩
      ·have ej:j=items.length:=by omega
       subst ej
       have run:=W.run
       rw [fg] at run
       have run:Out.ok (dk,ρ')=Out.ok (dE,ρE):=run
       cases run
       refine .inl ⟨it.stop _ H' (ax _) (W.gr.trans W.rep.sub),?_⟩
       obtain ⟨kA,kF⟩:=keepA W.chg
       have grF:Same F' (upd F' b (.lst xs)):=fun z u q=>by rw [qr (qx q W.fb)]; exact q
       have ea':σ'[i]?=some (some (V.ref a)):=by rw [W.io i hio]; exact e1
       have rpZ:=(W.rep.frz W.hb W.fb nb').see (i:=i) (d:=.ins k (vj fl (.lst dE) fs)) h1 ho ea' (by rw [qr nab]; exact kF) na' ⟨dx,_,by rw [kA,<-eo],((t.mono W.chg.grow).mono grF).put (.lst (.inl (.inl qm)) (W.is.mono grF))⟩
       refine h1' _ _ _ ⟨rpZ,?_,fun z q=>?_,W.io⟩
       ·have cc:Chg (OA own σ) F H F' H':=by
         refine (c1.trans' (Chg.put (A:=OA own σ) (b:=a) (u:=o) ⟨i,ho,e1⟩)).trans W.chg fun z q=>?_
         rcases q with ⟨n,hn',en⟩ | q
         ·exact .inl ⟨n,((h1 n).mp hn').1,en⟩
         ·exact .inr (by rw [q]; exact hHb)
        refine ⟨cc.keep,cc.stay,cc.grow.trans grF,fun z hz=>?_⟩
        by_cases zb:z=b
        ·exact .inr (.inl (by rw [zb]; exact hHb))
        ·rw [qr zb] at hz; exact cc.new z hz
       ·obtain ⟨n,hn',en⟩:=q
        by_cases qn:n=i
        ·rw [qn,ea'] at en
         cases en
         exact .inl ⟨i,ho,e1⟩
        ·rcases W.oa z ⟨n,(h1 n).mpr ⟨hn',qn⟩,en⟩ with ⟨n',hn2,en2⟩ | q
         ·exact .inl ⟨n',((h1 n').mp hn2).1,en2⟩
         ·by_cases za:z=a
          ·exact .inl ⟨i,ho,by rw [za]; exact e1⟩
          ·rw [qr za] at q
           refine .inr ?_
           cases qh:H z with
           | none=>rfl
           | some u=>exact absurd q (c1.stay z (by rw [qh]; simp))
   ·simp only [if_neg z] at h1'; exact h1'.elim
  | _=>exact h1'.elim
 | _=>simp only [] at h1'; exact h1'.elim
end
section
variable {o1 o2 o3:List Nat} {rest:List Stmt} {f g:Sl->Out (Fl×Sl)} {u:TS}
theorem GG (h1:PS X st (tSt C o1 o2 f)) (h2:PSs X rest u):PSs X (st::rest) (Zz (tSt C o1 o2 f) u):=wU h1 h2
theorem vN (h1:PS X st (tSt C o1 o2 f)) (h2:PSs X rest (Zz (tSt C o2 o3 g) u)):PSs X (st::rest) (Zz (tSt C o1 o3 (jm f g)) u):=Je (wU h1 h2) fun D σ H h=>qaB (D:={ D with nx:=u D }) h
theorem Inv.ghost {pins:List (Addr×Obj)} {σ':St} (I:Inv X pins σ H s) (hl:σ'.length=σ.length) (h:∀ (i:Nat) (x:Str),X.N[i]?=some x->Vis X.env.scope x->σ'[i]?=σ[i]?):Inv X pins σ' H s:=
 ⟨I.ok,I.os,I.bare,I.base,let ⟨m,hn,hl'⟩:=I.loc; ⟨m,hn,fun i x v e1 e2 e3=>hl' i x v e1 (by rw [<-h i x e1 e3]; exact e2) e3⟩,I.cell,I.free,I.freeC,I.pin,I.hok,hl.trans I.len⟩
end
def spG (K:Frag) (cv:Str->Value) (ms:List PM) (mr:Mo) (G:List D->Out (D×List D)):Sp:=fun vs H Q E=>vs.length+1=ms.length/\∃ c,spD K cv ms mr G (vs++[.ref c]) H Q E
variable {vs:List V}
theorem KP {c:V} (hn:vs.length < N.length):(vf N (vs++[c])).length=(vf N vs).length/\∀ i,i≠vs.length->(vf N (vs++[c]))[i]?=(vf N vs)[i]?:=by
 unfold vf
 refine ⟨by simp; omega,fun i hi=>?_⟩
 rw [cI,dh]
 by_cases h:i < vs.length
 ·rw [ci (by simpa using h),ci (by simpa using h)]
 ·have h1:vs.length < i:=by omega
  rw [bB (by simp; omega),bB (by simp; omega),bB (by simp; omega)]
  simp only [aG,ae,aq,am]
  by_cases h2:i < N.length
  ·rw [bf,bf,if_pos (by omega),if_pos (by omega)]
  ·rw [bf,bf,if_neg (by omega),if_neg (by omega)]
theorem qgp {P:Program} {w:World} {K:Frag} {mg:Str->Option Value} {base:Heap} {CX:CXT} {x qual gn:Str} {st:Stmt} {f:Addr} {fd:FuncData} {N ps:List Str} {k:Nat} {cv:Str->Value} {ms:List PM} {mr:Mo} {own':List Nat} {fb:Sl->Out (Fl×Sl)} {G:List D->Out (D×List D)}
  (F:Fun K x qual st f fd) (S:FnScope N ps (qd st)) (hl:ms.length=ps.length+1) (hgn:N[ps.length]?=some gn) (hgv:¬Vis (qd st) gn) (hsub:∀ i∈Jh 0 ms,i∈own') (hmr:mr=.sh\/∀ ds ρ,(fb (qv N ds))≠.ok (.nx,ρ))
  (hbody:∀ (cdv:Value) (A:Around) (outer:List Env) (s:Shared) (H:Hp) (E:XK),Room k (A.deeper (envOfC qual (qd st) s.heap.objs.size f cdv)) ->
   PSs (Zr CX P w K mg base N qual (qd st) f cdv A outer s H E) (jz st) (tSt (Ki K cv E ms mr) (jv 0 ms) own' fb))
  (hG:∀ ds,Out.le (G ds) (vE N ms fb ds)):FnOk P w K mg base CX (k+1) f fd ps (spG K cv ms mr G):=by
 obtain ⟨oc,od,kV,doc,pm,an,cdv,ct,osl,rfl,lk,hcd⟩:=F.ex
 refine ZM lk hcd S (fun vs H Q E h=>?_) fun A outer s H vs Q E hr hsp=>?_
 ·have:=h.1
  omega
 ·obtain ⟨hlen,c,F1,ds,sb,ar,nd,h⟩:=hsp
  have B:=hbody cdv A outer s H E hr
  have T:=Yt (N:=N) (f:=fb) (C:=Ki K cv E ms mr) rfl rfl (hmr.imp id fun z ρ=>z ds ρ) hsub sb ar nd (hG ds) h
  have hv:vs.length=ps.length:=by omega
  have hn:vs.length < N.length:=by rw [hv]; exact (aE.mp hgn).1
  obtain ⟨g1,g2⟩:=KP (c:=.ref c) hn
  refine ⟨fun D σ H'=>σ=vf N vs/\tSt (Ki K cv E ms mr) (jv 0 ms) own' fb D (vf N (vs++[.ref c])) H',⟨fun pins s' σ H' D I ⟨e,t⟩=>?_⟩,rfl,T⟩
  subst e
  refine B.run pins s' _ H' D (Inv.ghost I g1 fun i y hy hvis=>g2 i fun z=>?_) t
  have hy:N[i]?=some y:=hy
  rw [z,hv,hgn] at hy
  cases hy
  exact hgv hvis
def KQ (P:Program) (w:World) (K:Frag) (mg:Str->Option Value) (base:Heap) (cv:Str->Value) (k:Nat) (c:Addr) (x:Str) (ps:List Str) (ms:List PM) (mr:Mo) (G:List D->Out (D×List D)):Prop:=
 ∃ f fd,FnOk P w K mg base (CXk P w) k f fd ps (spG K cv ms mr G)/\Meth K c x f/\Binds K fd ps []
section
variable {gn:Str} {k:Nat}
theorem Qe (T:zU K c x qual st ps) (S:FnScope N ps (qd st)) (gn:Str)
  (hbody:∀ (cdv:Value) (f:Addr) (A:Around) (outer:List Env) (s:Shared) (H:Hp) (E:XK),Room k (A.deeper (envOfC qual (qd st) s.heap.objs.size f cdv)) ->
   PSs (cxk P w K mg base N qual (qd st) f cdv A outer s H E) (jz st) (tSt (Ki K cv E ms mr) (jv 0 ms) own' fb))
  (hgn:N[ps.length]?=some gn:=by rfl) (hgv:¬Vis (qd st) gn:=by unfold Vis; decide +kernel) (hl:ms.length=ps.length+1:=by rfl) (hsub:∀ i∈Jh 0 ms,i∈own':=by exact wl rfl) (hmr:mr=.sh\/∀ ds ρ,(fb (qv N ds))≠.ok (.nx,ρ):=by exact .inl rfl):KQ P w K mg base cv (k+1) c x ps ms mr (vE N ms fb):=by
 obtain ⟨f,fd,F,hm,hb⟩:=T
 exact ⟨f,fd,qgp F S hl hgn hgv hsub hmr (fun cdv A outer s H E hr=>hbody cdv f A outer s H E hr) fun _=>.inr rfl,hm,hb⟩
end
variable {F' H0:Hp}
section
theorem Rep.swap {H':Hp} {g:Nat} {o:D} (rp:Rep K own F H σ ρ) (hg:g∈own) (eb:σ[g]?=some (some (V.ref b))) (c:Chg (fun z=>z=b) F H F' H') (sb:Same F' H') (fb:F' b=none) (ow:OwnIs K F' H' b o) :
  Rep K own F' H' σ (ρ.set g (some o))/\Chg (OA own σ) F H F' H':=by
 obtain ⟨d0,hd0⟩:=rp.opn g hg
 have hl:g < ρ.length:=(aE.mp hd0).1
 refine ⟨⟨sb,by simp [rp.len],fun j d hj e=>?_,fun j d hj e=>?_,fun j hj=>?_,rp.dis⟩,c.mono fun z hz=>⟨g,hg,by rw [hz]; exact eb⟩⟩
 ·rw [ad (fun z=>hj (by rw [<-z]; exact hg))] at e
  obtain ⟨v,h1,h2⟩:=rp.val j d hj e
  exact ⟨v,h1,h2.mono c.grow⟩
 ·by_cases q:j=g
  ·subst q
   rw [aF hl] at e
   cases e
   exact ⟨b,eb,fb,ow⟩
  ·rw [ad (aX q)] at e
   obtain ⟨a,h1,h2,h3⟩:=rp.ow j d hj e
   have na:a≠b:=fun z=>by subst z; exact q (rp.dis j g a hj hg h1 eb)
   refine ⟨a,h1,?_,h3.grow c.grow fun o q=>c.keep a o q na⟩
   cases qa:F' a with
   | none=>rfl
   | some u=>
    rcases c.new a (by rw [qa]; simp) with z | z | z
    ·exact absurd h2 z
    ·exact absurd z h3.there
    ·exact absurd z na
 ·by_cases q:j=g
  ·subst q; exact ⟨o,aF hl⟩
  ·rw [ad (aX q)]; exact rp.opn j hj
theorem qdQ {o:D} (hF:F b=none) (ow:OwnIs K F H b o):∀ {as:List AK} {vs:List V} {ds:List D},Zv as=true->ArgV K H0 F H σ as vs ds ->
  ArgsIs K F H (as.map wA++[.io]) (vs++[.ref b]) (ds++[o])/\wz (as.map wA++[.io]) (vs++[.ref b])=[b]/\vs.length=as.length/\ds.length=as.length
 | [],[],[],_,_=>⟨⟨⟨b,rfl,hF,ow⟩,trivial⟩,rfl,rfl,rfl⟩
 | .vl::as,v::vs,d::ds,h,a=>by
  obtain ⟨i1,i2,i3,i4⟩:=qdQ hF ow (as:=as) h a.2
  exact ⟨⟨a.1,i1⟩,i2,congrArg (·+1) i3,congrArg (·+1) i4⟩
 | [],_::_,_,_,a=>a.elim
 | [],[],_::_,_,a=>a.elim
 | .vl::_,[],_,_,a=>a.elim
 | .vl::_,_::_,[],_,a=>a.elim
 | .sl _::_,_,_,h,_=>by cases h
 | .fr::_,_,_,h,_=>by cases h
theorem qdR {F H:Hp} {b:Addr}:∀ {as:List AK} {vs:List V} {outs:List D},Zv as=true->vs.length=as.length->wn K F H (as.map wA++[.io]) (vs++[.ref b]) outs->∃ o,outs[as.length]?=some o/\F b=none/\OwnIs K F H b o
 | [],[],outs,_,_,h=>by
  cases outs with
  | nil=>exact h.elim
  | cons o os=>
   obtain ⟨⟨a,e,h1,h2⟩,_⟩:=h
   cases e
   exact ⟨o,rfl,h1,h2⟩
 | .vl::as,v::vs,outs,h,hl,k=>by
  cases outs with
  | nil=>exact k.elim
  | cons o os=>
   obtain ⟨o',e,r⟩:=qdR (as:=as) (vs:=vs) (outs:=os) h (by simpa using hl) k
   exact ⟨o',by simpa using e,r⟩
 | [],_::_,_,_,hl,_=>by cases hl
 | .vl::_,[],_,_,hl,_=>by cases hl
 | .sl _::_,_,_,h,_,_=>by cases h
 | .fr::_,_,_,h,_,_=>by cases h
end
noncomputable def dMG (c:Addr) (n fld:Str) (g:Nat) (G:List D->Out (D×List D)) (fo:Sl->Out (D×Sl)) (fr:Sl->Out (List D×Sl)):Sl->Out (D×Sl):=fun ρ=>(fo ρ).bind fun p=>match p.1 with
 | .ins k fs=>if k=c/\(fs.lookup n).isNone=true then (fr p.2).bind fun q=>(match fs.lookup fld,q.2[g]? with
  | some (.raw (.ref a)),some (some (.at_ b es))=>if a=b then (match G (.ins k fs::(q.1++[.at_ b es])) with
   | .ok r=>(match r.2[q.1.length+1]? with | some o=>.ok (r.1,q.2.set g (some o)) | none=>.bad)
   | .exc x os=>(match (os.map (·.getD .non))[q.1.length+1]? with | some o=>.exc x (q.2.set g (some o)) | none=>.bad)
   | .bad=>.bad) else .bad
  | _,_=>.bad) else .bad
 | _=>.bad
noncomputable def jP (g:Nat) (f:Sl->Out (D×Sl)):Sl->Out (D×Sl):=fun ρ=>(f ρ).bind fun p=>match p.1,p.2[g]? with
 | .raw (.ref a),some (some (.at_ b es))=>if a=b then .ok (.lst es,p.2) else .bad
 | _,_=>.bad
noncomputable def qb7 (g:Nat) (fo fe:Sl->Out (D×Sl)):Sl->Out (D×Sl):=fun ρ=>(jP g fo ρ).bind fun p=>(fe p.2).bind fun q=>match q.2[g]? with
 | some (some (.at_ b es))=>if es.length < 100000 then .ok (.non,q.2.set g (some (.at_ b (es++[q.1])))) else .bad
 | _=>.bad
noncomputable def qb8 (g:Nat) (fo:Sl->Out (D×Sl)):Sl->Out (D×Sl):=fun ρ=>(jP g fo ρ).bind fun p=>match p.2[g]? with
 | some (some (.at_ b es))=>(match es[es.length - 1]? with | some d=>.ok (d,p.2.set g (some (.at_ b es.dropLast))) | none=>.bad)
 | _=>.bad
theorem IsL.dropLast (h:IsL K F vs ds):IsL K F vs.dropLast ds.dropLast:=by
 rw [List.dropLast_eq_take,List.dropLast_eq_take,h.length]
 exact h.take _
variable {n fld:Str} {G:List D->Out (D×List D)} {as:List AK} {apos cpos:Pos} {Q:VK}
section
variable {es:List Expr} {fr:Sl->Out (List D×Sl)} {g:Nat} {k:Nat}
theorem Ww {l:List D} {d0:D} {Q:VK} (hv:Zv as=true) (hg:g∈own) (hio:∀ i∈C.ox,i∈own) (rp:Rep C.K own F H σ ρ) (is:Is C.K F (.ref a) d0) (av:ArgV C.K H0 F H σ as vs ds) (e2:ρ[g]?=some (some (.at_ b l)))
  (po:Po C own mr σ F H (match G (d0::(ds++[.at_ b l])) with
   | .ok r=>(match r.2[ds.length+1]? with | some o=>.ok (r.1,ρ.set g (some o)) | none=>.bad)
   | .exc x os=>(match (os.map (·.getD .non))[ds.length+1]? with | some o=>.exc x (ρ.set g (some o)) | none=>.bad)
   | .bad=>.bad) Q):spG C.K C.cv (.val::(as.map wA++[.io])) mr G (.ref a::vs) H Q C.E:=by
 obtain ⟨b',eb,fb,ow⟩:=rp.ow g _ hg e2
 have hb:b=b':=ow.1
 subst hb
 obtain ⟨a1,a2,a3,a4⟩:=qdQ fb ow hv av
 refine ⟨by simp [a3],b,F,d0::(ds++[.at_ b l]),rp.sub,⟨is,a1⟩,by show (wz (as.map wA++[.io]) (vs++[.ref b])).Nodup; rw [a2]; simp,?_⟩
 have la:∀ {F' H'},Chg (LA (.val::(as.map wA++[.io])) (.ref a::vs++[.ref b])) F H F' H'->Chg (fun z=>z=b) F H F' H':=fun c=>c.mono fun z hz=>by
  have hz:z∈wz (as.map wA++[.io]) (vs++[.ref b]):=hz
  rw [a2] at hz
  simpa using hz
 have out:∀ {F' H' outs},wn C.K F' H' (.val::(as.map wA++[.io])) (.ref a::vs++[.ref b]) outs->∃ o,outs[ds.length+1]?=some o/\F' b=none/\OwnIs C.K F' H' b o:=fun {F' H' outs} h=>by
  cases outs with
  | nil=>exact h.elim
  | cons o os=>
   obtain ⟨o',e,r⟩:=qdR hv a3 (show wn C.K F' H' (as.map wA++[.io]) (vs++[.ref b]) os from h)
   exact ⟨o',by rw [a4]; simpa using e,r⟩
 cases q:G (d0::(ds++[.at_ b l])) with
 | bad=>rw [q] at po; exact po.elim
 | ok r=>
  rw [q] at po
  obtain ⟨d,outs⟩:=r
  intro v F' H' sb c o mo
  obtain ⟨o',e,f1,f2⟩:=out o
  simp only [e] at po
  obtain ⟨r1,r2⟩:=rp.swap hg eb (la c) sb f1 f2
  exact po v F' H' r1 r2 mo
 | exc x os=>
  rw [q] at po
  intro F' H' sb c o
  obtain ⟨o',e,f1,f2⟩:=out o
  simp only [e] at po
  obtain ⟨r1,r2⟩:=rp.swap hg eb (la c) sb f1 f2
  exact po F' H' sb (r1.ioIs hio) r2
theorem JI {pl:Sem Bool} (hc:Cls X.K c) (MF:KQ X.prog X.w X.K X.mg X.base cv j c n ps [.val,.io] mr G) (hr:Room k X.A) (hj:j<=k) (hx:kC (CXk X.prog X.w) X C.E) (hg:g∈own) (ho:PE X o (tE C own mo fo)) (hmo:mo≠.any:=by decide) (hcv:C.cv=cv:=by rfl) (hK:C.K=X.K:=by rfl) (hio:∀ i∈C.ox,i∈own:=by exact wl rfl)
  (ht:eval (.Call (.Attribute o n apos) [] [] pos) X.env=(do
   let ov <-eval o X.env
   standAt apos.atName
   let (f,first) <-holding [ov] (getMethod ov n pl)
   callWith pos f first (backTo pos (starEach [] X.env)) (backToKw pos (keywordEach [] X.env))):=by rfl):PE X (.Call (.Attribute o n apos) [] [] pos) (tE C own mr (dMG c n fld g G fo qF)):=by
 subst hcv
 obtain ⟨f,fd,F0,M,hb⟩:=MF
 refine jd (VL (pl:=pl) (vg ho hmo) hc M F0 (hr.mono hj) hb .nil hx ht) fun σ H Q ⟨F,ρ,rp,h⟩=>⟨F,ρ,rp,Po.bind h fun v F1 H1 d ρ1 rp1 c1 mo1 h1=>?_⟩
 have mo1:Is C.K F1 v d:=mo1
 cases mo1 with
 | @ins a k dx fv fs ea t=>
  by_cases z:k=c/\(fs.lookup n).isNone=true
  ·simp only [if_pos z] at h1
   obtain ⟨rfl,hn⟩:=z
   refine ⟨a,dx,fv,rfl,rp1.sub _ _ ea,t.non (by cases q:fs.lookup n with | none=>rfl | some y=>rw [q] at hn; cases hn),?_⟩
   have h1:Po C own mr σ F1 H1 (match fs.lookup fld,ρ1[g]? with
    | some (.raw (.ref a)),some (some (.at_ b es))=>if a=b then (match G (.ins k fs::([]++[.at_ b es])) with
     | .ok r=>(match r.2[0+1]? with | some o=>.ok (r.1,ρ1.set g (some o)) | none=>.bad)
     | .exc x os=>(match (os.map (·.getD .non))[0+1]? with | some o=>.exc x (ρ1.set g (some o)) | none=>.bad)
     | .bad=>.bad) else .bad
    | _,_=>.bad) Q:=h1
   split at h1
   ·rename_i a' b' es' e1 e2
    by_cases q:a'=b'
    ·rw [if_pos q] at h1
     have:=Ww (as:=[]) (vs:=[]) (ds:=[]) (H0:=H1) rfl hg hio rp1 (.ins ea t) trivial e2 h1
     rw [hK] at this
     exact this
    ·rw [if_neg q] at h1; exact h1.elim
   ·exact h1.elim
  ·simp only [if_neg z] at h1; exact h1.elim
 | _=>exact h1.elim
theorem JJ {pl:Sem Bool} (hc:Cls X.K c) (MF:KQ X.prog X.w X.K X.mg X.base cv j c n ps ms mr G) (hr:Room k X.A) (hj:j<=k) (hx:kC (CXk X.prog X.w) X C.E) (hg:g∈own) (ho:PE X o (tE C own mo fo)) (ha:PA X (e::es) (tAr C own as fr)) (hmo:mo≠.any:=by decide) (hcv:C.cv=cv:=by rfl) (hK:C.K=X.K:=by rfl) (hio:∀ i∈C.ox,i∈own:=by exact wl rfl) (hms:ms=.val::(as.map wA++[.io]):=by rfl) (hv:Zv as=true:=by rfl)
  (hst:starEach (e::es) X.env=(false,eval e X.env)::starEach es X.env:=by exact jk rfl) (hpl:(backTo pos (starEach es X.env)).any (·.1)=false:=by exact wX rfl)
  (ht:eval (.Call (.Attribute o n apos) (e::es) [] pos) X.env=(do
   let ov <-eval o X.env
   standAt apos.atName
   let (f,first) <-holding [ov] (getMethod ov n pl)
   callWith pos f first (backTo pos (starEach (e::es) X.env)) (backToKw pos (keywordEach [] X.env))):=by rfl):PE X (.Call (.Attribute o n apos) (e::es) [] pos) (tE C own mr (dMG c n fld g G fo fr)):=by
 subst hcv hms
 obtain ⟨f,fd,F0,M,hb⟩:=MF
 refine jd (US (pl:=pl) (vg ho hmo) hc M F0 (hr.mono hj) hb .nil hx ha hst hpl ht) fun σ H Q ⟨F,ρ,rp,h⟩=>⟨F,ρ,rp,Po.bind h fun v F1 H1 d ρ1 rp1 c1 mo1 h1=>?_⟩
 have mo1:Is C.K F1 v d:=mo1
 cases mo1 with
 | @ins a k dx fv fs ea t=>
  by_cases z:k=c/\(fs.lookup n).isNone=true
  ·simp only [if_pos z] at h1
   obtain ⟨rfl,hn⟩:=z
   refine ⟨a,dx,fv,rfl,rp1.sub _ _ ea,t.non (by cases q:fs.lookup n with | none=>rfl | some y=>rw [q] at hn; cases hn),F1,ρ1,rp1,?_⟩
   cases q0:fr ρ1 with
   | exc y os=>rw [q0] at h1; exact h1
   | bad=>rw [q0] at h1; exact h1.elim
   | ok pq=>
    obtain ⟨ds,ρ2⟩:=pq
    rw [q0] at h1
    intro vs F2 H2 rp2 c2 av
    rw [bi]
    have h1:=Po.shift (show Po C own mr σ F1 H1 (match fs.lookup fld,ρ2[g]? with
     | some (.raw (.ref a)),some (some (.at_ b es))=>if a=b then (match G (.ins k fs::(ds++[.at_ b es])) with
      | .ok r=>(match r.2[ds.length+1]? with | some o=>.ok (r.1,ρ2.set g (some o)) | none=>.bad)
      | .exc x os=>(match (os.map (·.getD .non))[ds.length+1]? with | some o=>.exc x (ρ2.set g (some o)) | none=>.bad)
      | .bad=>.bad) else .bad
     | _,_=>.bad) Q from h1) c2
    split at h1
    ·rename_i a' b' es' e1 e2
     by_cases q:a'=b'
     ·rw [if_pos q] at h1
      have:=Ww hv hg hio rp2 ((Is.ins ea t).mono c2.grow) av e2 h1
      rw [hK] at this
      exact this
     ·rw [if_neg q] at h1; exact h1.elim
    ·exact h1.elim
  ·simp only [if_neg z] at h1; exact h1.elim
 | _=>exact h1.elim
theorem Qf {kk:D×Sl->Out (D×Sl)} {R:VK} (hg:g∈own) (hm:m≠.any) (rp:Rep C.K own F H σ ρ) (h:Po C own mr σ F H ((jP g fo ρ).bind kk) Q)
  (K1:∀ b xs l F1 H1 ρ1,Rep C.K own F1 H1 σ ρ1->ρ1[g]?=some (some (.at_ b l))->σ[g]?=some (some (V.ref b))->F1 b=none->H1 b=some (.lst xs)->IsL C.K F1 xs l->Po C own mr σ F1 H1 (kk (.lst l,ρ1)) Q->R (.ref b) H1):Po C own .sh σ F H (fo ρ) R:=by
 unfold jP at h
 cases q0:fo ρ with
 | exc y os=>rw [q0] at h; exact h
 | bad=>rw [q0] at h; exact h.elim
 | ok pq=>
  obtain ⟨d,ρ1⟩:=pq
  rw [q0] at h
  intro v F1 H1 rp1 c1 mo1
  have mo1:Is C.K F1 v d:=mo1
  have h:=Po.shift (show Po C own mr σ F H ((match d,ρ1[g]? with | .raw (.ref a),some (some (.at_ b es))=>if a=b then (Out.ok (.lst es,ρ1):Out (D×Sl)) else Out.bad | _,_=>(Out.bad:Out (D×Sl))).bind kk) Q from h) c1
  split at h
  ·rename_i a' b' es' e2 hh1 hh2
   by_cases q:a'=b'
   ·rw [if_pos q] at h
    subst q
    cases mo1
    obtain ⟨b'',eb,fb,ow⟩:=rp1.ow g _ hg e2
    obtain ⟨hb,xs,e3,il⟩:=ow
    subst hb
    exact K1 _ xs es' F1 H1 ρ1 rp1 e2 eb fb e3 il h
   ·rw [if_neg q] at h; exact h.elim
  ·exact h.elim
theorem GH (hg:g∈own) (he:PE X e (tE C own m fo)) (hm:m≠.any:=by decide):PE X e (tE C own .any (jP g fo)):=by
 refine jd (vg he hm) fun σ H Q ⟨F,ρ,rp,h⟩=>⟨F,ρ,rp,?_⟩
 have h':Po C own .any σ F H ((jP g fo ρ).bind fun p=>.ok p) Q:=by
  cases q:jP g fo ρ with
  | ok p=>rw [q] at h; exact h
  | exc y os=>rw [q] at h; exact h
  | bad=>rw [q] at h; exact h.elim
 exact Qf hg hm rp h' fun b xs l F1 H1 ρ1 rp1 e1 e2 e3 e4 il po=>po (.ref b) F1 H1 rp1 .refl (.inr ⟨b,rfl,xs,e4,il⟩)
theorem qb9 (hK:C.K=X.K) (hg:g∈own) (ho:PE X o (tE C own mo fo)) (he:PE X e (tE C own m fe)) (hmo:mo≠.any:=by decide) (hm:m≠.any:=by decide)
  (hbase:attributeBase o "append" X.env (eval o X.env)=eval o X.env:=by rfl)
  (hfew:((backTo cpos (starEach [e] X.env)).all (fun x=>!x.1)&&(backToKw cpos (keywordEach [] X.env)).all (fun x=>x.1.isSome)
   && decide ([e].length+([]:List Keyword).length+(if ([]:List Keyword).isEmpty then 0 else 1) < 30))=true:=by exact uM rfl)
  (hline:(apos.endLine == cpos.line)=true:=by rfl) (hs:starEach [e] X.env=[(false,eval e X.env)]:=by exact qO rfl) :
  PE X (.Call (.Attribute o "append" apos) [e] [] cpos) (tE C own .sh (qb7 g fo fe)):=by
 refine jd (UV bY PySem.F.slot_list_append PySem.F.type_list_append xF (vg ho hmo) (qV (vg he hm) jZ hs) hbase hfew hline hs rfl) fun σ H Q ⟨F,ρ,rp,h⟩=>⟨F,ρ,rp,?_⟩
 refine Qf hg hmo rp h fun b xs l F1 H1 ρ1 rp1 e1 e2 e3 e4 il po=>⟨.inl ⟨rfl,xs,.inl (.inl e4)⟩,F1,ρ1,rp1,?_⟩
 refine Po.bind po fun v F2 H2 d ρ2 rp2 c2 mo2 po2=>?_
 have mo2:Is C.K F2 v d:=mo2
 have po2:Po C own .sh σ F2 H2 (match ρ2[g]? with | some (some (.at_ b es))=>if es.length < 100000 then .ok (.non,ρ2.set g (some (.at_ b (es++[d])))) else .bad | _=>.bad) Q:=po2
 split at po2
 ·rename_i b' es' e5
  by_cases q:es'.length < 100000
  ·rw [if_pos q] at po2
   obtain ⟨b'',eb,fb,ow⟩:=rp2.ow g _ hg e5
   obtain ⟨hb,ys,e6,il6⟩:=ow
   subst hb
   rw [e2] at eb
   cases eb
   obtain ⟨r2,c3⟩:=rp2.write (u:=.lst (ys++[v])) (d:=.at_ b (es'++[d])) hg e2 ⟨rfl,_,qm,il6.append (.cons mo2 .nil)⟩
   refine ⟨b,ys,v,rfl,rfl,e6,?_,po2 .non F2 _ r2 c3 .non⟩
   rw [il6.length,sizeLine_eq]
   omega
  ·rw [if_neg q] at po2; exact po2.elim
 ·exact po2.elim
theorem qca (hK:C.K=X.K) (hg:g∈own) (ho:PE X o (tE C own mo fo)) (hmo:mo≠.any:=by decide)
  (hbase:attributeBase o "pop" X.env (eval o X.env)=eval o X.env:=by rfl) (hline:(apos.endLine == cpos.line)=true:=by rfl) :
  PE X (.Call (.Attribute o "pop" apos) [] [] cpos) (tE C own .sh (qb8 g fo)):=by
 refine jd (qaz bY PySem.F.slot_list_pop PySem.F.type_list_pop qaA (vg ho hmo) hbase hline) fun σ H Q ⟨F,ρ,rp,h⟩=>⟨F,ρ,rp,?_⟩
 refine Qf hg hmo rp h fun b xs l F1 H1 ρ1 rp1 e1 e2 e3 e4 il po=>⟨.inl ⟨rfl,xs,.inl (.inl e4)⟩,?_⟩
 simp only [e1] at po
 cases q:l[l.length - 1]? with
 | none=>simp only [q] at po; exact po.elim
 | some d=>
  simp only [q] at po
  obtain ⟨v,ev,iv⟩:=il.getD q
  rw [<-il.length] at ev
  obtain ⟨r2,c3⟩:=rp1.write (u:=.lst xs.dropLast) (d:=.at_ b l.dropLast) hg e2 ⟨rfl,_,qm,il.dropLast⟩
  exact ⟨b,xs,v,rfl,rfl,e4,ev,po v F1 _ r2 c3 iv⟩
end
theorem KR {K:Frag} {F H:Hp}:∀ {ws:List V} {ds:List D},IsL K F ws ds->ArgsIs K F H (au ws.length .val) ws ds/\wz (au ws.length .val) ws=[]
 | [],[],.nil=>⟨trivial,rfl⟩
 | w::ws,d::ds,.cons h t=>⟨⟨h,(KR t).1⟩,(KR (H:=H) t).2⟩
noncomputable def qcJ (c:Addr) (N:List Str) (fpre:Sl->Out (Fl×Sl)) (ds:List D):Out (List (Str×D)):=match fpre (qv N (.ins c []::ds)) with
 | .ok (.nx,ρ)=>(match (ρ[0]?:Option (Option D)) with | some (some (.ins k fs))=>if k=c/\fs.length < 1000 then .ok fs else .bad | _=>.bad)
 | .exc e o=>.exc e o
 | _=>.bad
def spI (K:Frag) (cv:Str->Value) (c:Addr) (fld:Str) (n:Nat) (GI:List D->Out (List (Str×D))):Sp:=fun vs H Q E=>∃ x dx ws F ds,vs=.ref x::ws/\ws.length=n/\H x=some (.ins c dx [])/\F x=none/\Same F H/\IsL K F ws ds/\(match GI ds with
 | .ok fs=>∀ F' H' dx' fv b,Same F' H'->Chg (fun z=>z=x) F H F' H'->F' x=none->H' x=some (.ins c dx' (xC fld (.ref b) fv))->IsF K F' fv fs->F' b=none->H b=none->H' b=some (.lst [])->Q .non H'
 | .exc e _=>∀ F' H',Same F' H'->Chg (fun z=>z=x) F H F' H'->E (cv e) none H'
 | .bad=>False)
theorem qgq {P:Program} {w:World} {K:Frag} {mg:Str->Option Value} {base:Heap} {CX:CXT} {xn qual fld:Str} {st:Stmt} {f c:Addr} {fd:FuncData} {N ps:List Str} {k n:Nat} {cv:Str->Value} {fpre:Sl->Out (Fl×Sl)}
  (F0:Fun K xn qual st f fd) (S:FnScope N ps (qd st)) (hl:ps.length=n+1) (hc:Cls K c) (hn:NoAttr K c fld)
  (hbody:∀ (cdv:Value) (A:Around) (outer:List Env) (s:Shared) (H:Hp) (E:XK),Room k (A.deeper (envOfC qual (qd st) s.heap.objs.size f cdv)) ->
   PSs (Zr CX P w K mg base N qual (qd st) f cdv A outer s H E) (jz st) (Zz (tSt (Ki K cv E (.io::au n .val) .sh) [0] [0] fpre) (qeZ K (qcQ 0) (tE (Ki K cv E (.io::au n .val) .sh) [0] .fr (xM qF)) fld))) :
  FnOk P w K mg base CX (k+1) f fd ps (spI K cv c fld n (qcJ c N fpre)):=by
 obtain ⟨oc,od,kV,doc,pm,an,cdv,ct,osl,rfl,lk,hcd⟩:=F0.ex
 refine ZM lk hcd S (fun vs H Q E h=>?_) fun A outer s H vs Q E hr hsp=>?_
 ·obtain ⟨x,dx,ws,F,ds,rfl,hw,_⟩:=h
  simp [hw,hl]
 ·obtain ⟨x,dx,ws,F,ds,rfl,hw,ex,fx,sb,il,hq⟩:=hsp
  refine ⟨_,hbody cdv A outer s H E hr,?_⟩
  obtain ⟨a1,a2⟩:=KR (H:=H) il
  rw [hw] at a1 a2
  have o0:jv 0 (.io::au n .val)=[0]:=by
   show 0::jv 1 (au n .val)=[0]
   congr 1
   have:∀ (n m:Nat),jv m (au n .val)=[]:=by
    intro n
    induction n with
    | zero=>intro m; rfl
    | succ n ih=>intro m; exact ih (m+1)
   exact this n 1
  have la:wz (.io::au n .val) (.ref x::ws)=[x]:=by show x::wz (au n .val) ws=[x]; rw [a2]
  have ar:ArgsIs K F H (.io::au n .val) (.ref x::ws) (.ins c []::ds):=⟨⟨x,rfl,fx,dx,[],ex,.nil⟩,a1⟩
  have rp:=xO (N:=N) sb ar (by rw [la]; simp)
  rw [o0] at rp
  have oaX:∀ {z},OA [0] (vf N (.ref x::ws)) z->z=x:=fun {z} q=>by
   obtain ⟨i,hi,e⟩:=q
   have hi:i=0:=by simpa using hi
   subst hi
   have e:some (some (V.ref x))=some (some (V.ref z)):=e
   cases e
   rfl
  refine ⟨F,qv N (.ins c []::ds),rp,?_⟩
  unfold qcJ at hq
  cases q:fpre (qv N (.ins c []::ds)) with
  | bad=>rw [q] at hq; exact hq.elim
  | exc e o=>
   rw [q] at hq
   exact fun F' H' s' _ c'=>hq F' H' s' (c'.mono fun z hz=>oaX hz)
  | ok pr=>
   obtain ⟨fl,ρ⟩:=pr
   cases fl with
   | rt d=>rw [q] at hq; exact hq.elim
   | bk=>rw [q] at hq; exact hq.elim
   | ct=>rw [q] at hq; exact hq.elim
   | nx=>
    simp only [q] at hq
    intro σ' F1 H1 nx
    obtain ⟨d0,hd0⟩:=nx.rep.opn 0 (by simp)
    have e0:σ'[0]?=some (some (V.ref x)):=by
     rw [nx.io 0 (by simp [Ki,Jh])]
     rfl
    simp only [hd0] at hq
    refine ⟨F1,ρ,nx.rep,?_⟩
    have hz0:([]:List D).length<=sizeLine:=bt _
    show Po _ _ _ _ _ _ (if ([]:List D).length<=sizeLine then Out.ok (.lst [],ρ) else .bad) _
    rw [if_pos hz0]
    intro y F2 H2 rp2 c2 mo2
    obtain ⟨b,rfl,hb0,hbF,xs,hb1,ib⟩:=mo2
    cases ib
    obtain ⟨a',e1,fa,ow⟩:=rp2.ow 0 d0 (by simp) hd0
    rw [e0] at e1
    cases e1
    cases d0 with
    | ins kk fs=>
     by_cases z:kk=c/\fs.length < 1000
     ·simp only [if_pos z] at hq
      obtain ⟨rfl,hlen⟩:=z
      obtain ⟨dx',fv,ea,t⟩:=ow
      refine ⟨_,e0,x,kk,dx',fv,rfl,ea,hc,hn,by rw [t.length]; exact hlen,?_⟩
      have nbx:b≠x:=fun z=>by
       rw [z] at hb0
       exact (nx.rep.OA_there ⟨0,by simp,e0⟩).1 hb0
      have hbH:H b=none:=by
       cases qb:H b with
       | none=>rfl
       | some u=>exact absurd hb0 (nx.chg.stay b (by rw [qb]; simp))
      have oa':∀ {z},OA [0] σ' z->z=x:=fun {z} q=>by
       obtain ⟨i,hi,e⟩:=q
       have hi:i=0:=by simpa using hi
       subst hi
       rw [e0] at e
       cases e
       rfl
      refine hq F2 _ dx' fv b (fun z o e=>by rw [qr (fun q=>by rw [q,fa] at e; cases e)]; exact rp2.sub z o e) ?_ fa qm t hbF hbH (by rw [qr nbx]; exact hb1)
      exact ((nx.chg.mono fun z hz=>oaX hz).trans' (c2.mono fun z hz=>oa' hz)).trans' (Chg.put rfl)
     ·simp only [if_neg z] at hq
    | _=>exact hq.elim
def qcb (P:Program) (w:World) (K:Frag) (mg:Str->Option Value) (base:Heap) (cv:Str->Value) (k:Nat) (c:Addr) (fld:Str) (ps:List Str) (n:Nat) (GI:List D->Out (List (Str×D))):Prop:=
 ∃ f fd,FnOk P w K mg base (CXk P w) k f fd ps (spI K cv c fld n GI)/\Mk K c f/\Binds K fd ps []
theorem GJ {P:Program} {w:World} {K:Frag} {mg:Str->Option Value} {base:Heap} {qual fld:Str} {st:Stmt} {c:Addr} {N ps:List Str} {k n:Nat} {cv:Str->Value} {fpre:Sl->Out (Fl×Sl)}
  (T:qb4 K c qual st ps) (S:FnScope N ps (qd st)) (hc:Cls K c) (hn:NoAttr K c fld)
  (hbody:∀ (cdv:Value) (f:Addr) (A:Around) (outer:List Env) (s:Shared) (H:Hp) (E:XK),Room k (A.deeper (envOfC qual (qd st) s.heap.objs.size f cdv)) ->
   PSs (cxk P w K mg base N qual (qd st) f cdv A outer s H E) (jz st) (Zz (tSt (Ki K cv E (.io::au n .val) .sh) [0] [0] fpre) (qeZ K (qcQ 0) (tE (Ki K cv E (.io::au n .val) .sh) [0] .fr (xM qF)) fld)))
  (hl:ps.length=n+1:=by rfl):qcb P w K mg base cv (k+1) c fld ps n (qcJ c N fpre):=by
 obtain ⟨f,fd,F,hm,hb⟩:=T
 exact ⟨f,fd,qgq F S hl hc hn (fun cdv A outer s H E hr=>hbody cdv f A outer s H E hr),hm,hb⟩
theorem qgr {ca:Str->Addr} (hv:cv n=.ref (ca n)) (hs:bU K (.ref (ca n)) (.ref (ca n))=some true):∀ c Cc,qaJ ca [n] c=some Cc->cv c=.ref Cc/\bU K (.ref Cc) (.ref (ca n))=some true:=fun c Cc h=>by
 unfold qaJ at h
 split at h
 ·rename_i z
  cases h
  have z:c=n:=by simpa using z
  subst z
  exact ⟨hv,hs⟩
 ·cases h
section
variable {mw:Mo} {w:Expr} {p3:Pos}
noncomputable def GK:D->Bool
 | .non=>true
 | .bl _=>true
 | .int _=>true
 | .str _=>true
 | _=>false
noncomputable def qcc:D->Bool
 | .tup xs=>xs.all GK
 | d=>GK d
theorem qdS (h:Is K F v d) (f:GK d=true):Is K F' v d:=by
 cases h with
 | non=>exact .non
 | bl b=>exact .bl b
 | int i=>exact .int i
 | str z=>exact .str z
 | _=>cases f
theorem qaQ:∀ {vs:List V} {ds:List D},IsL K F vs ds->ds.all GK=true->IsL K F' vs ds
 | _,_,.nil,_=>.nil
 | _,_,.cons h t,f=>by
  rw [dH,aP] at f
  exact .cons (qdS h f.1) (qaQ t f.2)
theorem qcd {ys:List V} (h:Is K F v d) (f:qcc d=true) (hb:F b=some (.lst ys)) (k:∀ z o,F z=some o->z≠b->F' z=some o):Is K F' v d:=by
 cases h with
 | @tup a xs ds p t=>
  refine .tup ?_ (qaQ t f)
  rcases p with (p | ⟨o,p⟩) | p
  ·exact .inl (.inl (k _ _ p fun z=>by rw [z,hb] at p; cases p))
  ·exact .inl (.inr ⟨o,k _ _ p fun z=>by rw [z,hb] at p; cases p⟩)
  ·exact .inr p
 | non=>exact .non
 | bl b=>exact .bl b
 | int i=>exact .int i
 | str z=>exact .str z
 | _=>cases f
noncomputable def dMR (c:Addr) (n fld:Str) (g:Nat) (G:List D->Out (D×List D)) (fo:Sl->Out (D×Sl)):Sl->Out (D×Sl):=fun ρ=>(fo ρ).bind fun p=>match p.1 with
 | .ins k fs=>if k=c/\(fs.lookup n).isNone=true then (match fs.lookup fld,(p.2[g]?:Option (Option D)) with
  | some (.raw (.ref a)),some (some (.at_ b es))=>if a=b then (match G [.ins k fs,.at_ b es] with
   | .ok r=>if qcc r.1=true then .ok (r.1,p.2) else .bad
   | _=>.bad) else .bad
  | _,_=>.bad) else .bad
 | _=>.bad
theorem vp {pl:Sem Bool} {fld:Str} {g k:Nat} (hc:Cls X.K c) (MF:KQ X.prog X.w X.K X.mg X.base cv j c n ps [.val,.val] .sh G) (hr:Room k X.A) (hj:j<=k) (hx:kC (CXk X.prog X.w) X C.E) (hg:g∈own) (ho:PE X o (tE C own mo fo)) (hmo:mo≠.any:=by decide) (hcv:C.cv=cv:=by rfl) (hK:C.K=X.K:=by rfl)
  (ht:eval (.Call (.Attribute o n apos) [] [] pos) X.env=(do
   let ov <-eval o X.env
   standAt apos.atName
   let (f,first) <-holding [ov] (getMethod ov n pl)
   callWith pos f first (backTo pos (starEach [] X.env)) (backToKw pos (keywordEach [] X.env))):=by rfl):PE X (.Call (.Attribute o n apos) [] [] pos) (tE C own .sh (dMR c n fld g G fo)):=by
 subst hcv
 obtain ⟨f,fd,F0,M,hb⟩:=MF
 refine jd (VL (pl:=pl) (vg ho hmo) hc M F0 (hr.mono hj) hb .nil hx ht) fun σ H Q ⟨F,ρ,rp,h⟩=>⟨F,ρ,rp,Po.bind h fun v F1 H1 d ρ1 rp1 c1 mo1 h1=>?_⟩
 have mo1:Is C.K F1 v d:=mo1
 cases mo1 with
 | @ins a k dx fv fs ea t=>
  by_cases z:k=c/\(fs.lookup n).isNone=true
  ·simp only [if_pos z] at h1
   obtain ⟨rfl,hn⟩:=z
   refine ⟨a,dx,fv,rfl,rp1.sub _ _ ea,t.non (by cases q:fs.lookup n with | none=>rfl | some y=>rw [q] at hn; cases hn),?_⟩
   split at h1
   ·rename_i a' b' es' e1 e2
    by_cases q:a'=b'
    ·rw [if_pos q] at h1
     obtain ⟨b'',eb,fb,hbb,ys,e3,il⟩:=rp1.ow g _ hg e2
     subst hbb
     have gr:Same F1 (upd F1 b' (.lst ys)):=fun z o e=>by rw [qr (qx e fb)]; exact e
     have sb1:Same (upd F1 b' (.lst ys)) H1:=fun z o e=>by
      by_cases q:z=b'
      ·rw [q,qm] at e; cases e; rw [q]; exact e3
      ·rw [qr q] at e; exact rp1.sub z o e
     refine ⟨rfl,b',upd F1 b' (.lst ys),[.ins k fs,.at_ b' es'],sb1,⟨by rw [<-hK]; exact (Is.ins ea t).mono gr,by rw [<-hK]; exact .at_ (.inl (.inl qm)) (il.mono gr),trivial⟩,bJ,?_⟩
     cases q1:G [.ins k fs,.at_ b' es'] with
     | bad=>simp only [q1] at h1; exact h1.elim
     | exc y os=>simp only [q1] at h1; exact h1.elim
     | ok r=>
      obtain ⟨d,outs⟩:=r
      simp only [q1] at h1
      by_cases qf:qcc d=true
      ·rw [if_pos qf] at h1
       intro v F' H' sb cc _ mo
       have mo:Is X.K F' v d:=mo
       have cc:Chg No (upd F1 b' (.lst ys)) H1 F' H':=cc.mono fun z hz=>by
        have hz:z∈([]:List Addr):=hz
        cases hz
       have kp:∀ z o,F' z=some o->z≠b'->(fun z=>if z=b' then none else F' z) z=some o:=fun z o e nz=>by
        show (if z=b' then none else F' z)=some o
        rw [if_neg nz]; exact e
       have bF:F' b'=some (.lst ys):=cc.grow _ _ qm
       have gr2:Same F1 (fun z=>if z=b' then none else F' z):=fun z o e=>kp z o (cc.grow z o (gr z o e)) fun q=>by rw [q,fb] at e; cases e
       have dn:∀ {z o},(if z=b' then none else F' z)=some o->z≠b'/\F' z=some o:=fun {z o} e=>by
        by_cases q:z=b'
        ·rw [if_pos q] at e; cases e
        ·rw [if_neg q] at e; exact ⟨q,e⟩
       have ch:Chg No F1 H1 (fun z=>if z=b' then none else F' z) H':=⟨cc.keep,cc.stay,gr2,fun z hz=>by
        cases q:(if z=b' then none else F' z) with
        | none=>exact absurd q hz
        | some o=>
         obtain ⟨nz,e⟩:=dn q
         rcases cc.new z (by rw [e]; simp) with y | y | y
         ·rw [qr nz] at y; exact .inl y
         ·exact .inr (.inl y)
         ·exact y.elim⟩
       have sb2:Same (fun z=>if z=b' then none else F' z) H':=fun z o e=>sb z o (dn e).2
       exact h1 v _ H' (rp1.grow ch sb2) ch.ofNo (by rw [hK]; exact qcd mo qf bF kp)
      ·rw [if_neg qf] at h1; exact h1.elim
    ·rw [if_neg q] at h1; exact h1.elim
   ·exact h1.elim
  ·simp only [if_neg z] at h1; exact h1.elim
 | _=>exact h1.elim
theorem zg {g:Nat} (hg:g∉own) (he:PE X e (tE C own m fo)) (hm:m≠.any:=by decide):PE X e (tE C own .sh (jP g fo)):=by
 refine jd (vg he hm) fun σ H Q ⟨F,ρ,rp,h⟩=>⟨F,ρ,rp,?_⟩
 unfold jP at h
 cases q0:fo ρ with
 | exc y os=>rw [q0] at h; exact h
 | bad=>rw [q0] at h; exact h.elim
 | ok pq=>
  obtain ⟨d,ρ1⟩:=pq
  rw [q0,Out.ok_bind] at h
  intro v F1 H1 rp1 c1 mo1
  have mo1:Is C.K F1 v d:=mo1
  split at h
  ·rename_i a' b' es' hd0 e2
   by_cases q:a'=b'
   ·rw [if_pos q] at h
    have hd0:d=.raw (.ref a'):=hd0
    subst hd0 q
    cases mo1
    obtain ⟨w,ew,iw⟩:=rp1.val g _ hg e2
    cases iw with
    | at_ p t=>exact h _ F1 H1 rp1 c1 (.lst p t)
   ·rw [if_neg q] at h; exact h.elim
  ·exact h.elim
end
noncomputable def Xy (c:Addr) (n:Str) (G:List D->Out (D×List D)) (fo:Sl->Out (D×Sl)) (fr:Sl->Out (List D×Sl)):Sl->Out (D×Sl):=fun ρ=>(fo ρ).bind fun p=>match p.1 with
 | .ins k fs=>if k=c/\(fs.lookup n).isNone=true then (fr p.2).bind fun q=>(match G (.ins k fs::q.1) with
  | .ok r=>.ok (r.1,q.2)
  | .exc x _=>.exc x q.2
  | .bad=>.bad) else .bad
 | _=>.bad
theorem qdT (hv:Zv as=true) (av:ArgV K H0 F H σ as vs ds):ArgsIs K F H (as.map wA) vs ds/\wz (as.map wA) vs=[]:=qdO (Same.refl F) hv av
section
variable {es:List Expr} {fr:Sl->Out (List D×Sl)} {k:Nat}
theorem GL {pl:Sem Bool} (hc:Cls X.K c) (MF:Xw X.prog X.w X.K X.mg X.base cv j c n ps ms mr G) (hr:Room k X.A) (hj:j<=k) (hx:kC (CXk X.prog X.w) X C.E) (ho:PE X o (tE C own mo fo)) (ha:PA X (e::es) (tAr C own as fr)) (hmo:mo≠.any:=by decide) (hcv:C.cv=cv:=by rfl) (hK:C.K=X.K:=by rfl) (hio:∀ i∈C.ox,i∈own:=by exact wl rfl) (hms:ms=.val::as.map wA:=by rfl) (hv:Zv as=true:=by rfl)
  (hst:starEach (e::es) X.env=(false,eval e X.env)::starEach es X.env:=by exact jk rfl) (hpl:(backTo pos (starEach es X.env)).any (·.1)=false:=by exact wX rfl)
  (ht:eval (.Call (.Attribute o n apos) (e::es) [] pos) X.env=(do
   let ov <-eval o X.env
   standAt apos.atName
   let (f,first) <-holding [ov] (getMethod ov n pl)
   callWith pos f first (backTo pos (starEach (e::es) X.env)) (backToKw pos (keywordEach [] X.env))):=by rfl):PE X (.Call (.Attribute o n apos) (e::es) [] pos) (tE C own mr (Xy c n G fo fr)):=by
 subst hcv hms
 obtain ⟨f,fd,F0,M,hb⟩:=MF
 refine jd (US (pl:=pl) (vg ho hmo) hc M F0 (hr.mono hj) hb .nil hx ha hst hpl ht) fun σ H Q ⟨F,ρ,rp,h⟩=>⟨F,ρ,rp,Po.bind h fun v F1 H1 d ρ1 rp1 c1 mo1 h1=>?_⟩
 have mo1:Is C.K F1 v d:=mo1
 cases mo1 with
 | @ins a k dx fv fs ea t=>
  by_cases z:k=c/\(fs.lookup n).isNone=true
  ·simp only [if_pos z] at h1
   obtain ⟨rfl,hn⟩:=z
   refine ⟨a,dx,fv,rfl,rp1.sub _ _ ea,t.non (by cases q:fs.lookup n with | none=>rfl | some y=>rw [q] at hn; cases hn),F1,ρ1,rp1,?_⟩
   cases q0:fr ρ1 with
   | exc y os=>rw [q0] at h1; exact h1
   | bad=>rw [q0] at h1; exact h1.elim
   | ok pq=>
    obtain ⟨ds,ρ2⟩:=pq
    rw [q0] at h1
    intro vs F2 H2 rp2 c2 av
    rw [bi]
    have h1:=Po.shift (show Po C own mr σ F1 H1 (match G (.ins k fs::ds) with | .ok r=>.ok (r.1,ρ2) | .exc x _=>.exc x ρ2 | .bad=>.bad) Q from h1) c2
    obtain ⟨a1,a2⟩:=qdT hv av
    refine ⟨F2,.ins k fs::ds,rp2.sub,⟨by rw [<-hK]; exact (Is.ins ea t).mono c2.grow,by rw [<-hK]; exact a1⟩,by show (wz (as.map wA) vs).Nodup; rw [a2]; exact bJ,?_⟩
    have near:∀ {F' H':Hp},Chg (LA (.val::as.map wA) (.ref a::vs)) F2 H2 F' H'->Chg No F2 H2 F' H':=fun cc=>cc.mono fun z hz=>by
     have hz:z∈wz (as.map wA) vs:=hz
     rw [a2] at hz
     cases hz
    cases q1:G (.ins k fs::ds) with
    | bad=>rw [q1] at h1; exact h1.elim
    | exc y os=>rw [q1] at h1; exact fun F' H' sb cc _=>h1 F' H' sb ((rp2.grow (near cc) sb).ioIs hio) (near cc).ofNo
    | ok pq=>
     rw [q1] at h1
     obtain ⟨d,outs⟩:=pq
     exact fun v F' H' sb cc _ mo=>h1 v F' H' (rp2.grow (near cc) sb) (near cc).ofNo (by rw [hK]; exact mo)
  ·simp only [if_neg z] at h1; exact h1.elim
 | _=>exact h1.elim
end
noncomputable def qce:D->Out D
 | .tup ds=>(match uZ ds with
  | some ks=>if ks.length<=1000/\(ks.all fun k=>decide (0<=k/\k<=100000))=true then .ok (.int ks.sum) else .bad
  | none=>.bad)
 | _=>.bad
theorem zh (ks:List Int):∀ n,n<=ks.length->preSum (fun i=>ks.getD i 0) n=(ks.take n).sum
 | 0,_=>rfl
 | n+1,h=>by
  have ih:=zh ks n (by omega)
  show preSum (fun i=>ks.getD i 0) n+ks.getD n 0=_
  rw [ih,eY,List.sum_append]
  have:ks[n]?=some (ks.getD n 0):=by rw [dq,aJ (by omega)]; rfl
  rw [this]
  simp
theorem qaR:∀ (ks:List Int),(ks.all fun k=>decide (0<=k/\k<=100000))=true->0<=ks.sum/\ks.sum<=100000 * ks.length
 | [],_=>by simp
 | k::ks,h=>by
  rw [dH,aP] at h
  have h1:=of_decide_eq_true h.1
  have ih:=qaR ks h.2
  rw [List.sum_cons,ae]
  omega
variable {g:D->D->Out D} {op:CmpOp}
section
variable {mb:Mo} {b:Expr} {fb:Sl->Out (D×Sl)} {px:Pos}
theorem qaS (hK:C.K=X.K) (hc:X.calm=true):Jg X C .sh (.builtin "sum") qce:=by
 intro pins s σ H xs us Q I r h
 obtain ⟨x,F,dx,rfl,sb,tx,po⟩:=h
 cases dx with
 | tup ds=>
  obtain ⟨u,rfl,ru⟩:=xc r
  obtain ⟨a,vs,rfl,hq,il⟩:=tx.tup sb
  cases ru
  rw [hK] at hq
  obtain ⟨its,rv,pl,hz⟩:=I.tuple hq
  cases e:uZ ds with
  | none=>
   have po:PoV C .sh F H (match uZ ds with | some ks=>if ks.length<=1000/\(ks.all fun k=>decide (0<=k/\k<=100000))=true then .ok (.int ks.sum) else .bad | none=>.bad) Q:=po
   rw [e] at po; exact po.elim
  | some ks=>
   have po:PoV C .sh F H (match uZ ds with | some ks=>if ks.length<=1000/\(ks.all fun k=>decide (0<=k/\k<=100000))=true then .ok (.int ks.sum) else .bad | none=>.bad) Q:=po
   rw [e] at po
   by_cases hk:ks.length<=1000/\(ks.all fun k=>decide (0<=k/\k<=100000))=true
   ·have po:PoV C .sh F H (if ks.length<=1000/\(ks.all fun k=>decide (0<=k/\k<=100000))=true then .ok (.int ks.sum) else .bad) Q:=po
    rw [if_pos hk] at po
    have st:=Qd il rv e
    have hlt:a < s.heap.objs.size:=pl.lt
    have hn:its.length=ks.length:=st.length
    refine call_sum_walk (wpAny_pyIter_tuple (show s.heap.IsTuple a its.toArray from pl) ?_)
    refine ⟨s.heap.objs.size,_,_,_,_,_,fun i=>ks.getD i 0,rfl,fK (A:=X.A.in1) (I.ok.hd hc) _ a (ay hlt) its.toArray,⟨⟨_,ag _ rfl,rfl,rfl⟩,?_⟩,?_,fun i v ev=>?_,fun j hj=>?_,fun h' tk t' kp=>?_⟩
    ·obtain ⟨o,e,c⟩:=pl
     exact ⟨o,aa _ e,c⟩
    ·intro z hz'
     rw [bT]
     simp only [ac,bo,or_false] at hz'
     rcases hz' with rfl | rfl
     ·exact eC _
     ·exact dg hlt
    ·obtain ⟨y,t,e1,e2⟩:=st.item i v (by simpa using ev)
     exact ⟨t,by rw [e1]; show c6 y t=c6 (ks.getD i 0) t; rw [dq,e2]; rfl⟩
    ·rw [ak,hn] at hj
     have hall:=hk.2
     rw [aZ] at hall
     have h1:=of_decide_eq_true (hall (ks.getD j 0) (by rw [dq,aJ hj]; exact cA hj))
     have h2:=qaR (ks.take (j+1)) (aZ.mpr fun k hk'=>hall k (List.mem_of_mem_take hk'))
     have h3:(ks.take (j+1)).length<=1000:=by rw [dA]; omega
     have e3:=zh ks (j+1) hj
     refine ⟨⟨by show (-2 ^ 63:Int)<=ks.getD j 0; omega,by show ks.getD j 0 < (2 ^ 63:Int); omega⟩,?_⟩
     rw [e3]
     exact ⟨by omega,by omega⟩
    ·have I1:Inv X pins σ H { s with heap:=h',toks:=tk }:=I.kept (t':=tk) fun z o ez=>kp z o (fun q=>by
      rw [aC.mp q] at ez
      exact bu _ (ap ez)) (aa _ ez)
     have e3:preSum (fun i=>ks.getD i 0) its.toArray.size=ks.sum:=by
      rw [ak,hn,zh ks _ (ax _),fj]
     exact ⟨.int ks.sum,H,I1,⟨t',by rw [e3]⟩,po _ F H sb .refl (.int _)⟩
   ·have po:PoV C .sh F H (if ks.length<=1000/\(ks.all fun k=>decide (0<=k/\k<=100000))=true then .ok (.int ks.sum) else .bad) Q:=po
    rw [if_neg hk] at po; exact po.elim
 | _=>exact po.elim
noncomputable def d2O (i:Nat) (g:D->D->Out D) (fb:Sl->Out (D×Sl)):Sl->Out (D×Sl):=fun ρ=>(fb ρ).bind fun q=>match (q.2[i]?:Option (Option D)) with
 | some (some d)=>(g d q.1).plain.bind fun r=>.ok (r,q.2)
 | _=>.bad
theorem KS (ho:i∈own) (h:tE C own m (d2O i g fb) σ H Q) :
  qcQ i σ H fun x H1=>tE C own mb fb σ H1 fun y H2=>∃ F dx dy,Same F H2/\TopIs C.K F H2 x dx/\TopIs C.K F H2 y dy/\PoV C m F H2 (g dx dy) Q:=by
 obtain ⟨F,ρ,rp,h⟩:=h
 obtain ⟨d0,hd0⟩:=rp.opn i ho
 obtain ⟨a,e1,hF,o0⟩:=rp.ow i d0 ho hd0
 refine ⟨_,e1,F,ρ,rp,Po.bind h fun v F1 H1 d ρ1 rp1 c1 mo1 h1=>?_⟩
 obtain ⟨d1,hd1⟩:=rp1.opn i ho
 obtain ⟨a',e2,hF1,o1⟩:=rp1.ow i d1 ho hd1
 rw [e1] at e2
 cases e2
 simp only [hd1] at h1
 exact ⟨F1,d1,d,rp1.sub,.inr ⟨a,rfl,o1⟩,mo1.top,PoV.of rp1 h1⟩
theorem qcf (hN:X.N[i]?=some x) (hv:Vis X.env.scope x) (ho:i∈own) (hop:OpD X C m (compareOp op) g) (hb:PE X b (tE C own mb fb))
  (hd:(x == ("__debug__":Str))=false:=by decide) (hcd:(x == ("__classdict__":Str))=false:=by decide) (hk:behindInMarks op b=false:=by first | exact VJ _ | with_unfolding_all rfl):PE X (.Compare (.Name x px) [op] [b] pos) (tE C own m (d2O i g fb)):=
 jd (UJ hop (vm hN hv hd hcd) hb hk) fun _ _ _ h=>KS ho h
theorem GM (hN:X.N[i]?=some x) (hv:Vis X.env.scope x) (ho:i∈own) (hop:OpD X C .sh (compareOp op) g) (hb:PE X b (tE C own mb fb))
  (hd:(x == ("__debug__":Str))=false:=by decide) (hcd:(x == ("__classdict__":Str))=false:=by decide) (hk:behindInMarks op b=false:=by first | exact VJ _ | with_unfolding_all rfl):PT X (.Compare (.Name x px) [op] [b] pos) (tT C own (qR (d2O i g fb))):=by
 refine Ye (UK hop (vm hN hv hd hcd) hb hk) fun σ H Q h=>?_
 exact KS ho (Kv h)
theorem qdU (hK:C.K=X.K) (hu:X.A.units+64 < cLine) (hN:X.N[i]?=some x) (hv:Vis X.env.scope x) (ho:i∈own) (hb:PE X b (tE C own mb fb)) (hs:Kq b)
  (hd:(x == ("__debug__":Str))=false:=by decide) (hcd:(x == ("__classdict__":Str))=false:=by decide):PE X (.Subscript (.Name x px) b pos) (tE C own .sh (d2O i ixD fb)):=by
 refine jd (qdd (qaD (by omega)) (vm hN hv hd hcd) hb hs) fun σ H Q h=>?_
 obtain ⟨v,e1,F,ρ,rp,h⟩:=KS (mb:=mb) ho h
 refine ⟨v,e1,F,ρ,rp,?_⟩
 cases q2:fb ρ with
 | ok p=>
  rw [q2] at h
  obtain ⟨d',ρ3⟩:=p
  intro w F3 H3 rp3 c3 mo3
  obtain ⟨F4,dx,dy,sb,tx,ty,po⟩:=h w F3 H3 rp3 c3 mo3
  exact qaE (σ:=σ) hK sb tx ty po
 | exc c=>rw [q2] at h; exact h
 | bad=>rw [q2] at h; exact h.elim
noncomputable def JK (i:Nat):Sl->Out (D×Sl):=fun ρ=>match (ρ[i]?:Option (Option D)) with
 | some (some (.lst es))=>(match es[es.length - 1]? with | some d=>.ok (d,ρ.set i (some (.lst es.dropLast))) | none=>.bad)
 | _=>.bad
theorem Xz (hN:X.N[i]?=some x) (hv:Vis X.env.scope x) (ho:i∈own) (hd:(x == ("__debug__":Str))=false:=by decide) (hcd:(x == ("__classdict__":Str))=false:=by decide)
  (hbase:attributeBase (.Name x px) "pop" X.env (eval (.Name x px) X.env)=eval (.Name x px) X.env:=by rfl) (hline:(apos.endLine == cpos.line)=true:=by rfl) :
  PE X (.Call (.Attribute (.Name x px) "pop" apos) [] [] cpos) (tE C own .sh (JK i)):=by
 refine jd (qaz bY PySem.F.slot_list_pop PySem.F.type_list_pop qaA (vm hN hv hd hcd) hbase hline) fun σ H Q ⟨F,ρ,rp,h⟩=>?_
 obtain ⟨d0,hd0⟩:=rp.opn i ho
 obtain ⟨a,e1,hF,o0⟩:=rp.ow i d0 ho hd0
 unfold JK at h
 simp only [hd0] at h
 cases d0 with
 | lst es=>
  obtain ⟨xs,ex,il⟩:=o0
  refine ⟨_,e1,.inl ⟨rfl,xs,.inl (.inl ex)⟩,?_⟩
  cases q:es[es.length - 1]? with
  | none=>simp only [q] at h; exact h.elim
  | some d=>
   simp only [q] at h
   obtain ⟨v,ev,iv⟩:=il.getD q
   rw [<-il.length] at ev
   obtain ⟨r2,c3⟩:=rp.write (u:=.lst xs.dropLast) (d:=.lst es.dropLast) ho e1 ⟨_,qm,il.dropLast⟩
   exact ⟨a,xs,v,rfl,rfl,ex,ev,h v F _ r2 c3 iv⟩
 | _=>exact h.elim
end
def qfr (C:Ct) (own:List Nat) (c:Addr) (fld:Str) (GI:List D->Out (List (Str×D))) (fr:Sl->Out (List D×Sl)):TE:=fun σ H Q=>∃ F ρ,Rep C.K own F H σ ρ/\(match fr ρ with
 | .ok (ds,ρ1)=>(match GI ds with
  | .ok fs=>∀ a b F' H',Rep C.K own F' H' σ ρ1->Chg (OA own σ) F H F' H'->Is C.K F' (.ref a) (.ins c (vj fld (.raw (.ref b)) fs))->F' b=none->H b=none->H' b=some (.lst [])->Q (.ref a) H'
  | _=>False)
 | _=>False)
theorem qaT {K:Frag} {H0 F H:Hp} {σ:St}:∀ {as:List AK} {vs:List V} {ds:List D},Zv as=true->ArgV K H0 F H σ as vs ds->IsL K F vs ds/\vs.length=as.length
 | [],[],[],_,_=>⟨.nil,rfl⟩
 | .vl::as,v::vs,d::ds,h,a=>by
  obtain ⟨i1,i2⟩:=qaT (as:=as) h a.2
  exact ⟨.cons a.1 i1,congrArg (·+1) i2⟩
 | [],_::_,_,_,a=>a.elim
 | [],[],_::_,_,a=>a.elim
 | .vl::_,[],_,_,a=>a.elim
 | .vl::_,_::_,[],_,a=>a.elim
 | .sl _::_,_,_,h,_=>by cases h
 | .fr::_,_,_,h,_=>by cases h
section
variable {es:List Expr} {fr fr1 fr2:Sl->Out (List D×Sl)} {cn:Str} {GI:List D->Out (List (Str×D))} {k n:Nat}
theorem qaU {p pos:Pos} (MF:qcb X.prog X.w X.K X.mg X.base cv j c fld ps n GI) (hr:Room k X.A) (hj:j+1<=k) (hgl:Gl X cn) (hm:X.mg cn=some (.ref c)) (ha:PA X (e::es) (tAr C own as fr)) (hn:as.length=n:=by rfl) (hv:Zv as=true:=by rfl) (hK:C.K=X.K:=by rfl)
  (hdb:(cn == ("__debug__":Str))=false:=by decide) (he:starEach (e::es) X.env=(false,eval e X.env)::starEach es X.env:=by exact jk rfl) (hpl:(backTo pos (starEach es X.env)).any (·.1)=false:=by exact wX rfl) :
  PE X (.Call (.Name cn p) (e::es) [] pos) (qfr C own c fld GI fr):=by
 obtain ⟨f,fd,F0,M,hb⟩:=MF
 refine jd (qbp (E:=fun _ _ _=>False) M F0 (hr.mono hj) hgl hm hb .nil xf ha hdb he hpl) fun σ H Q ⟨F,ρ,rp,h⟩=>⟨F,ρ,rp,?_⟩
 cases q0:fr ρ with
 | exc y o=>simp only [q0] at h
 | bad=>simp only [q0] at h
 | ok pr=>
  obtain ⟨ds,ρ1⟩:=pr
  simp only [q0] at h
  intro vs F1 H1 rp1 c1 av a dx hx0 hd0 ne
  rw [bi]
  cases q1:GI ds with
  | exc y o=>simp only [q1] at h
  | bad=>simp only [q1] at h
  | ok fs=>
   simp only [q1] at h
   have nF:∀ {z:Addr},H1 z=none->F1 z=none:=fun {z} hz=>rp1.sub.free hz
   have ex:(upd (upd H1 dx (.own a)) a (.ins c dx [])) a=some (.ins c dx []):=qm
   have old:∀ {z},H1 z=none->H z=none:=fun {z} hz=>by
    cases q:H z with
    | none=>rfl
    | some o=>exact absurd hz (c1.stay z (by rw [q]; simp))
   have c2:Chg No F1 H1 F1 (upd (upd H1 dx (.own a)) a (.ins c dx [])):=⟨fun b o eb _=>by
     rw [qr (fun z=>by rw [z,hx0] at eb; cases eb),qr (fun z=>by rw [z,hd0] at eb; cases eb)]; exact eb,fun b nb=>by
     by_cases z:b=a
     ·rw [z,ex]; simp
     ·rw [qr z]
      by_cases z2:b=dx
      ·rw [z2,qm]; simp
      ·rw [qr z2]; exact nb,Same.refl _,fun b hb=>.inl hb⟩
   have s2:Same F1 (upd (upd H1 dx (.own a)) a (.ins c dx [])):=fun b o eb=>by
    rw [qr (fun z=>by rw [z,nF hx0] at eb; cases eb),qr (fun z=>by rw [z,nF hd0] at eb; cases eb)]; exact rp1.sub b o eb
   have il:=qaT hv av
   refine ⟨a,dx,vs,F1,ds,rfl,il.2.trans hn,ex,nF hx0,s2,by rw [<-hK]; exact il.1,?_⟩
   simp only [q1]
   intro F' H' dx' fv b sb cc fa ea t fb hb0 hb1
   refine ⟨trivial,?_⟩
   have nba:b≠a:=fun z=>by rw [z] at hb0; rw [ex] at hb0; cases hb0
   have hb0':H1 b=none:=by
    cases qb:H1 b with
    | none=>rfl
    | some u=>exact absurd hb0 (c2.stay b (by rw [qb]; simp))
   have near:Chg No F1 H1 F' H':=c2.trans cc fun z hz=>.inr (by rw [hz]; exact hx0)
   have nAa:¬OA own σ a:=fun z=>(rp.OA_there z).1 (old hx0)
   have gr:Same F' (upd F' a (.ins c dx' (xC fld (.ref b) fv))):=fun z o e=>by rw [qr (qx e fa)]; exact e
   refine h a b _ H' ((rp1.grow near sb).frz ea fa nAa) ?_ (by rw [hK]; exact .ins qm ((t.mono gr).put (.raw _))) (by rw [qr nba]; exact fb) (old hb0') hb1
   have q1:=c1.trans' (near.ofNo (A:=OA own σ))
   refine ⟨q1.keep,q1.stay,q1.grow.trans gr,fun z hz=>?_⟩
   by_cases za:z=a
   ·exact .inr (.inl (by rw [za]; exact old hx0))
   ·rw [qr za] at hz; exact q1.new z hz
def qfW (C:Ct) (own:List Nat) (i j g h:Nat) (c:Addr) (fld:Str) (GI:List D->Out (List (Str×D))) (fr1 fr2:Sl->Out (List D×Sl)):TS:=fun Dn σ H=>∃ F ρ,Rep C.K own F H σ ρ/\(match fr1 ρ with
 | .ok (ds1,ρ1)=>(match GI ds1 with
  | .ok fs1=>(match fr2 ρ1 with
   | .ok (ds2,ρ2)=>(match GI ds2 with
    | .ok fs2=>i < ρ2.length/\j < ρ2.length/\g < ρ2.length/\h < ρ2.length/\∀ b1 b2 σ' F' H',Nx C own (h::g::own) σ F H ((((ρ2.set i (some (.ins c (vj fld (.raw (.ref b1)) fs1)))).set j (some (.ins c (vj fld (.raw (.ref b2)) fs2)))).set g (some (.at_ b1 []))).set h (some (.at_ b2 []))) σ' F' H'->Dn.nx σ' H'
    | _=>False)
   | _=>False)
  | _=>False)
 | _=>False)
theorem qcg {i2 g g2:Nat} {y:Str} {a b:Expr} {px py pt pos pt2:Pos} {kt k2} (h1:PE X a (qfr C own c fld GI fr1)) (h2:PE X b (qfr C own c fld GI fr2)) (hc:X.calm=true) (hN:X.N.Nodup) (hi:X.N[i]?=some x) (hj:X.N[i2]?=some y) (hx:X.env.scope.names.lookup x=some .local) (hy:X.env.scope.names.lookup y=some .local)
  (hgv:∀ y,X.N[g]?=some y->¬Vis X.env.scope y) (hgv2:∀ y,X.N[g2]?=some y->¬Vis X.env.scope y)
  (oi:i∉own:=by decide) (oj:i2∉own:=by decide) (og:g∉own:=by decide) (oh:g2∉own:=by decide) (d1:i≠i2:=by decide) (d2':g≠g2:=by decide) (d3:i≠g:=by decide) (d4:i≠g2:=by decide) (d5:i2≠g:=by decide) (d6:i2≠g2:=by decide)
  (ii:i∉C.io:=by exact uo rfl) (ij:i2∉C.io:=by exact uo rfl) (ig:g∉C.io:=by exact uo rfl) (ih:g2∉C.io:=by exact uo rfl)
  (hs1:starEach [a,b] X.env=(false,eval a X.env)::starEach [b] X.env:=by exact jk rfl) (hs2:starEach [b] X.env=[(false,eval b X.env)]:=by exact qO rfl)
  (hw:swappedStores [.Tuple [.Name x px,.Name y py] kt pt] (.Tuple [a,b] k2 pt2) X.env=pure (some [x,y]):=by rfl) (hs:swapsWithSole [.Tuple [.Name x px,.Name y py] kt pt] (.Tuple [a,b] k2 pt2) pos.line X.env=pure false:=by rfl) :
  PS X (.Assign [.Tuple [.Name x px,.Name y py] kt pt] (.Tuple [a,b] k2 pt2) pos) (qfW C own i i2 g g2 c fld GI fr1 fr2):=by
 refine ⟨?_⟩
 intro pins s σ H Dn I ⟨F,ρ,rp,h⟩
 have main:=qau hc hN hi hj d1 hx hy (qV h1 (qV h2 jZ hs2) hs1) hw hs
 refine thn (main.run pins s σ H { Dn with nx:=fun σ' H'=>∃ v w,Dn.nx ((σ'.set g v).set g2 w) H' } I ?_) fun fl s' hsp=>?_
 ·refine ⟨F,ρ,rp,?_⟩
  cases q0:fr1 ρ with
  | exc y o=>simp only [q0] at h
  | bad=>simp only [q0] at h
  | ok pr=>
   obtain ⟨ds1,ρ1⟩:=pr
   simp only [q0] at h ⊢
   cases q1:GI ds1 with
   | exc y o=>simp only [q1] at h
   | bad=>simp only [q1] at h
   | ok fs1=>
    simp only [q1] at h ⊢
    intro a1 b1 F1 H1 rp1 c1 is1 fb1 hb1 hv1
    refine ⟨F1,ρ1,rp1,?_⟩
    cases q2:fr2 ρ1 with
    | exc y o=>simp only [q2] at h
    | bad=>simp only [q2] at h
    | ok pr=>
     obtain ⟨ds2,ρ2⟩:=pr
     simp only [q2] at h ⊢
     cases q3:GI ds2 with
     | exc y o=>simp only [q3] at h
     | bad=>simp only [q3] at h
     | ok fs2=>
      simp only [q3] at h ⊢
      intro a2 b2 F2 H2 rp2 c2 is2 fb2 hb2 hv2
      obtain ⟨l1,l2,l3,l4,h⟩:=h
      have nA1:¬OA own σ b1:=fun z=>(rp.OA_there z).1 hb1
      have hb2':H b2=none:=by
       cases q:H b2 with
       | none=>rfl
       | some o=>exact absurd hb2 (c1.stay b2 (by rw [q]; simp))
      have nA2:¬OA own σ b2:=fun z=>(rp.OA_there z).1 hb2'
      have n12:b2≠b1:=fun z=>by rw [z,hv1] at hb2; cases hb2
      have k1:H2 b1=some (.lst []):=c2.keep b1 _ hv1 nA1
      have f1:F2 b1=none:=by
       cases qb:F2 b1 with
       | none=>rfl
       | some u=>
        rcases c2.new b1 (by rw [qb]; simp) with z | z | z
        ·exact absurd fb1 z
        ·rw [hv1] at z; cases z
        ·exact absurd z nA1
      have rp3:=rp2.put l1 (is1.mono c2.grow)
      rw [jw oi] at rp3
      have rp4:=rp3.put (i:=i2) (by rw [bn]; exact l2) is2
      rw [jw oj] at rp4
      have oa4:∀ {z},OA own ((σ.set i (some (.ref a1))).set i2 (some (.ref a2))) z->OA own σ z:=fun {z} ⟨n',hn',en⟩=>by
       rw [ad (fun z=>oj (by rw [z]; exact hn')),ad (fun z=>oi (by rw [z]; exact hn'))] at en
       exact ⟨n',hn',en⟩
      have rp5:=rp4.putO (i:=g) (d:=.at_ b1 []) (by simp only [bn]; exact l3) f1 (fun z=>nA1 (oa4 z)) ⟨rfl,[],k1,.nil⟩
      rw [jw og] at rp5
      have lσ:σ.length=ρ2.length:=rp2.len
      have oa5:∀ {z},OA (g::own) (((σ.set i (some (.ref a1))).set i2 (some (.ref a2))).set g (some (.ref b1))) z->z=b1\/OA own σ z:=fun {z} ⟨n',hn',en⟩=>by
       rcases ac.mp hn' with rfl | hn'
       ·rw [aF (by simp only [bn,lσ]; exact l3)] at en
        cases en
        exact .inl rfl
       ·rw [ad (fun z=>og (by rw [z]; exact hn'))] at en
        exact .inr (oa4 ⟨n',hn',en⟩)
      have rp6:=rp5.putO (i:=g2) (d:=.at_ b2 []) (by simp only [bn]; exact l4) fb2 (fun z=>(oa5 z).elim n12 nA2) ⟨rfl,[],hv2,.nil⟩
      rw [jw (own:=g::own) (by simp only [ac,not_or]; exact ⟨aX d2',oh⟩)] at rp6
      refine ⟨_,_,rfl,some (.ref b1),some (.ref b2),h b1 b2 _ F2 H2 ⟨rp6,c1.trans' c2,fun z q=>?_,fun n' hn'=>?_⟩⟩
      ·obtain ⟨n',hn',en⟩:=q
       rcases ac.mp hn' with rfl | hn'
       ·rw [aF (by simp only [bn,lσ]; exact l4)] at en
        cases en
        exact .inr hb2'
       ·rw [ad (fun z=>by rw [<-z] at hn'; rcases ac.mp hn' with q | q; exact d2' q.symm; exact oh q)] at en
        rcases oa5 ⟨n',hn',en⟩ with q | q
        ·exact .inr (by rw [q]; exact hb1)
        ·exact .inl q
      ·rw [ad (fun z=>ih (by rw [z]; exact hn')),ad (fun z=>ig (by rw [z]; exact hn')),ad (fun z=>ij (by rw [z]; exact hn')),ad (fun z=>ii (by rw [z]; exact hn'))]
 ·cases fl with
  | next=>
   obtain ⟨σ',H',I',v,w,q⟩:=hsp
   refine ⟨(σ'.set g v).set g2 w,H',Inv.ghost I' (by simp) fun n' y hy hvis=>?_,q⟩
   rw [ad (fun z=>hgv2 y (by rw [z]; exact hy) hvis),ad (fun z=>hgv y (by rw [z]; exact hy) hvis)]
  | ret u=>exact hsp
  | brk=>exact hsp
  | cont=>exact hsp
end
def qdV (K:Frag) (N:List Str) (c:Addr) (fld:Str) (i j g h:Nat) (GI:List D->Out (List (Str×D))) (fpre:Sl->Out (Fl×Sl)) (fr1 fr2:Sl->Out (List D×Sl)) (fpost:Sl->Out (Fl×Sl)):Sp:=fun vs H Q _=>∃ F ds v0,vs=[v0]/\ds.length=1/\Same F H/\IsL K F vs ds/\∃ ρ1 ds1 ρ2 fs1 ds2 ρ3 fs2 d,fpre (qv N ds)=.ok (.nx,ρ1)/\fr1 ρ1=.ok (ds1,ρ2)/\GI ds1=.ok fs1/\fr2 ρ2=.ok (ds2,ρ3)/\GI ds2=.ok fs2/\(i < ρ3.length/\j < ρ3.length/\g < ρ3.length/\h < ρ3.length) /\
 (∀ b1 b2,∃ ρ',fpost ((((ρ3.set i (some (.ins c (vj fld (.raw (.ref b1)) fs1)))).set j (some (.ins c (vj fld (.raw (.ref b2)) fs2)))).set g (some (.at_ b1 []))).set h (some (.at_ b2 [])))=.ok (.rt d,ρ'))/\∀ v F' H',Is K F' v d->Q v H'
theorem qdW {P:Program} {w:World} {K:Frag} {mg:Str->Option Value} {base:Heap} {CX:CXT} {x qual fld:Str} {st:Stmt} {f c:Addr} {fd:FuncData} {N ps:List Str} {k i j g h:Nat} {cv:Str->Value} {own1 own2:List Nat} {fpre fpost:Sl->Out (Fl×Sl)} {fr1 fr2:Sl->Out (List D×Sl)} {GI:List D->Out (List (Str×D))}
  (F0:Fun K x qual st f fd) (S:FnScope N ps (qd st)) (hl:ps.length=1)
  (hbody:∀ (cdv:Value) (A:Around) (outer:List Env) (s:Shared) (H:Hp) (E:XK),Room k (A.deeper (envOfC qual (qd st) s.heap.objs.size f cdv)) ->
   PSs (Zr CX P w K mg base N qual (qd st) f cdv A outer s H E) (jz st) (Zz (tSt (Ki K cv E [.val] .sh) [] own1 fpre) (Zz (qfW (Ki K cv E [.val] .sh) own1 i j g h c fld GI fr1 fr2) (tSt (Ki K cv E [.val] .sh) (h::g::own1) own2 fpost)))) :
  FnOk P w K mg base CX (k+1) f fd ps (qdV K N c fld i j g h GI fpre fr1 fr2 fpost):=by
 obtain ⟨oc,od,kV,doc,pm,an,cdv,ct,osl,rfl,lk,hcd⟩:=F0.ex
 refine ZM lk hcd S (fun vs H Q E h=>?_) fun A outer s H vs Q E hr hsp=>?_
 ·obtain ⟨F,ds,v0,rfl,_⟩:=h
  exact hl.symm
 ·obtain ⟨F,ds,v0,rfl,hd,sb,il,ρ1,ds1,ρ2,fs1,ds2,ρ3,fs2,d,h1,h2,h3,h4,h5,⟨l1,l2,l3,l4⟩,h6,h7⟩:=hsp
  refine ⟨_,hbody cdv A outer s H E hr,?_⟩
  have ar:ArgsIs K F H [.val] [v0] ds:=by
   cases il with
   | cons a b=>cases b; exact ⟨a,trivial⟩
  have rp:=xO (N:=N) sb ar bJ
  refine ⟨F,qv N ds,rp,?_⟩
  rw [h1]
  intro σ1 F1 H1 n1
  refine ⟨F1,ρ1,n1.rep,?_⟩
  simp only [h2,h3,h4,h5]
  refine ⟨l1,l2,l3,l4,fun b1 b2 σ2 F2 H2 n2=>⟨F2,_,n2.rep,?_⟩⟩
  obtain ⟨ρ',e⟩:=h6 b1 b2
  rw [e]
  intro v σ' F' H' _ _ _ _ mo
  exact h7 v F' H' mo
def FlyA (h:Heap) (ex T:Addr) (cls:Value):Prop:=∃ oe vs oT ts fl,h.get? ex=some oe/\oe.cls=cls/\oe.data=.fields vs/\vs[1]?=some (.ref T)/\T≠ex/\h.get? T=some oT/\oT.data=.fields ts/\ts[3]?=some fl
theorem FlyA.tr {ex T:Addr} {cls:Value} (f:FlyA h ex T cls) (hb:base.get? T=none):∃ a0 fl,h.TracedAtW base ex cls a0 fl:=by
 obtain ⟨oe,vs,oT,ts,fl,a1,a2,a3,a4,a5,a6,a7,a8⟩:=f
 have hz:0 < vs.size:=Nat.lt_of_succ_lt (Array.getElem?_eq_some_iff.mp a4).1
 exact ⟨vs[0],fl,oe,vs,T,oT,ts,a1,⟨a2,by simp [hz]⟩,a3,a4,hb,a5,a6,a7,a8⟩
end L2.D2
set_option maxHeartbeats 4000000
namespace Kx
open PySem PySem.Spec PyProof.Rows L2 L2.D2
noncomputable def top (i:Nat):Stmt:=PySem.Challenge.pw_lookwords_k38_whole_two_books.main.body.getD i (.Pass ⟨0,0,0,0⟩)
noncomputable def CS:List Str:=["NoWords", "NoLook", "NoRoom", "NoWord", "NoWorths", "Never", "Nothing"]
noncomputable def FS:List Str:=[]
structure Zt (K:Frag) (mg:Str->Option Value) (cv:Str->Value) (ca:Str->Addr):Prop where
 xs:Xs K cv ca CS "WordError"
 mref:∀ c∈CS,mg c=some (.ref (ca c))
 xin:∀ c∈CS,dI K (ca c) bmV "ValueError.__new__"=true
 fref:∀ x∈FS,mg x=some (.ref (ca x))
 z_all:mg "all"=none
 z_bool:mg "bool"=none
 z_dict:mg "dict"=none
 z_int:mg "int"=none
 z_isinstance:mg "isinstance"=none
 z_len:mg "len"=none
 z_list:mg "list"=none
 z_max:mg "max"=none
 z_min:mg "min"=none
 z_range:mg "range"=none
 z_set:mg "set"=none
 z_sorted:mg "sorted"=none
 z_str:mg "str"=none
 z_sum:mg "sum"=none
 z_tuple:mg "tuple"=none
 z_zip:mg "zip"=none
 c_LEAST_PLACE:∃ t,mg "LEAST_PLACE"=some (.int (-3) t)
 c_MOST_LETTERS:∃ t,mg "MOST_LETTERS"=some (.int 6 t)
 c_MOST_PLACE:∃ t,mg "MOST_PLACE"=some (.int 2 t)
 c_MOST_ROOM:∃ t,mg "MOST_ROOM"=some (.int 99 t)
 c_MOST_WORDS:∃ t,mg "MOST_WORDS"=some (.int 6 t)
 m_Book:mg "Book"=some (.ref (ca "Book"))
 b_cls:Cls K (ca "Book")
 b_no:∀ f∈(["look", "width", "worths", "standing", "asked"]:List Str),NoAttr K (ca "Book") f
 s_NoWorths:bU K (.ref (ca "NoWorths")) (.ref (ca "NoWorths"))=some true
theorem JL:bootBuiltins "all"=some (.builtin "all"):=by decide +kernel
theorem qch:bootBuiltins "bool"=some (.type "bool"):=by decide +kernel
theorem XA:bootBuiltins "dict"=some (.type "dict"):=by decide +kernel
theorem qdX:bootBuiltins "int"=some (.type "int"):=by decide +kernel
theorem qZ:bootBuiltins "isinstance"=some (.builtin "isinstance"):=by decide +kernel
theorem js:bootBuiltins "len"=some (.builtin "len"):=by decide +kernel
theorem XB:bootBuiltins "list"=some (.type "list"):=by decide +kernel
theorem qdY:bootBuiltins "max"=some (.builtin "max"):=by decide +kernel
theorem qdZ:bootBuiltins "min"=some (.builtin "min"):=by decide +kernel
theorem zi:bootBuiltins "set"=some (.type "set"):=by decide +kernel
theorem ya:bootBuiltins "sorted"=some (.builtin "sorted"):=by decide +kernel
theorem qaV:bootBuiltins "str"=some (.type "str"):=by decide +kernel
theorem qaW:bootBuiltins "sum"=some (.builtin "sum"):=by decide +kernel
theorem vt:bootBuiltins "tuple"=some (.type "tuple"):=by decide +kernel
instance {α:Type}:Inhabited (Out α):=⟨.bad⟩
section
variable {P:Program} {w:World} {K:Frag} {mg:Str->Option Value} {base:Heap} {cv:Str->Value} {ca:Str->Addr}
abbrev qM:Stmt:=xH (top 34) 4
abbrev kL:List Str:=["self", "#a", "there", "free"]
theorem sc_Book_counts:FnScope kL ["self"] (qd qM):=⟨rfl,rfl,rfl,by decide +kernel,rfl,by decide +kernel,by decide +kernel⟩
noncomputable def vZ (ca:Str->Addr):Sl->Out (Fl×Sl):=(jm (wm 2 (d1 kG (jB [] 2 [] (wt (jP 1 (d1 (zS (ca "Book") "asked") (qg 0)))) (uD 2 (ja (gNm 0) (ja (gNm 1) uC))) (qR (d2 eqD (qg 1) (qg 0))) (qg 0))))
  (jm (wm 3 (d1 kG (jB [] 2 [] (wt (jP 1 (d1 (zS (ca "Book") "asked") (qg 0)))) (uD 2 (ja (gNm 0) (ja (gNm 1) uC))) (qR (d2 qev (qg 1) (dC .non))) (qg 0))))
  (km (yk (qe (qg 2) (qe (d2 VQ (d2 VQ (d1 kG (jP 1 (d1 (zS (ca "Book") "asked") (qg 0)))) (qg 2)) (qg 3)) (qe (qg 3) qF)))))))
noncomputable abbrev qw (ca:Str->Addr):List D->Out (D×List D):=vE kL [.val,.val] (vZ ca)
abbrev uu (ca:Str->Addr) P w K mg base cv:=KQ P w K mg base cv 1 (ca "Book") "counts" ["self"] [.val,.val] .sh (qw ca)
theorem zV (Z:Zt K mg cv ca) (T:zU K (ca "Book") "counts" "Book.counts" qM ["self"]):uu ca P w K mg base cv:=
 Qe (k:=0) (own':=[]) (fb:=vZ ca) T sc_Book_counts "#a" fun cdv f A outer s H E hr=>(qo (jb (i:=2) sc_Book_counts.nd rfl (aI rfl) (qE (jM rfl) rfl Z.z_len js (jG (N:=["word", "found"]) (nt:=2) (cap:=[]) rfl (wD (names:=(qd qM).names) rfl (by decide +kernel)) (kr (names:=(qd qM).names) (N:=kL) rfl rfl (by decide +kernel)) (jr rfl (zg (g:=1) (by decide) (wH rfl Z.b_cls (Z.b_no "asked" (by decide +kernel)) (vr 0)))) (fun fp L s1 H1=>(ym rfl rfl (qN (qy (i:=0) (show bH (["word", "found"]:List Str) from by decide +kernel) rfl (aI rfl)) (qN (qy (i:=1) (show bH (["word", "found"]:List Str) from by decide +kernel) rfl (aI rfl)) ub)))) (fun fp L s1 H1=>(Ky (qP (yl rfl hr.units) (vr 1) (vr 0)))) (fun fp L s1 H1=>(vr 0)))))
  (qo (jb (i:=3) sc_Book_counts.nd rfl (aI rfl) (qE (jM rfl) rfl Z.z_len js (jG (N:=["word", "found"]) (nt:=2) (cap:=[]) rfl (wD (names:=(qd qM).names) rfl (by decide +kernel)) (kr (names:=(qd qM).names) (N:=kL) rfl rfl (by decide +kernel)) (jr rfl (zg (g:=1) (by decide) (wH rfl Z.b_cls (Z.b_no "asked" (by decide +kernel)) (vr 0)))) (fun fp L s1 H1=>(ym rfl rfl (qN (qy (i:=0) (show bH (["word", "found"]:List Str) from by decide +kernel) rfl (aI rfl)) (qN (qy (i:=1) (show bH (["word", "found"]:List Str) from by decide +kernel) rfl (aI rfl)) ub)))) (fun fp L s1 H1=>(Ky (qP qdn (vr 1) xJ))) (fun fp L s1 H1=>(vr 0)))))
  (qp (qu (kT (qc (vr 2) (qc (jp xK (jp xK (qE (jM rfl) rfl Z.z_len js (zg (g:=1) (by decide) (wH rfl Z.b_cls (Z.b_no "asked" (by decide +kernel)) (vr 0)))) (vr 2)) (vr 3)) (qc (vr 3) ql))))))))
abbrev kf:Stmt:=xH (top 34) 5
abbrev zj:List Str:=["self", "#a"]
theorem JM:FnScope zj ["self"] (qd kf):=⟨rfl,rfl,rfl,by decide +kernel,rfl,by decide +kernel,by decide +kernel⟩
noncomputable def uH (ca:Str->Addr):Sl->Out (Fl×Sl):=(jm (sIf (qR (d2 eqD (d1 kG (jP 1 (d1 (zS (ca "Book") "asked") (qg 0)))) (dC (.int 0)))) (ky "Nothing" (qe (dC (.str "no word was asked that is not taken back")) qF)) jF)
  (km (d2 ixD (qb8 1 (d1 (zS (ca "Book") "asked") (qg 0))) (dC (.int 0)))))
noncomputable abbrev jI (ca:Str->Addr):List D->Out (D×List D):=vE zj [.val,.io] (uH ca)
abbrev yR (ca:Str->Addr) P w K mg base cv:=KQ P w K mg base cv 1 (ca "Book") "undo" ["self"] [.val,.io] .sh (jI ca)
theorem JN (Z:Zt K mg cv ca) (T:zU K (ca "Book") "undo" "Book.undo" kf ["self"]):yR ca P w K mg base cv:=
 Qe (k:=0) (own':=[1]) (fb:=uH ca) T JM "#a" fun cdv f A outer s H E hr=>(qo (jq (qP (yl rfl hr.units) (qE (jM rfl) rfl Z.z_len js (GH (g:=1) (by decide) (wH rfl Z.b_cls (Z.b_no "asked" (by decide +kernel)) (vr 0)))) qA) (qp (kq rfl (yL rfl) rfl rfl (Z.mref "Nothing" (by decide +kernel)) (Z.xs.val "Nothing" (by decide +kernel)) (Z.xin "Nothing" (by decide +kernel)) (qc kS ql))) qS)
  (qp (qu (ka rfl hr.units (qca (g:=1) rfl (by decide) (wH rfl Z.b_cls (Z.b_no "asked" (by decide +kernel)) (vr 0))) qA (fun _ _=>rfl)))))
abbrev wa:Stmt:=top 16
abbrev zk:List Str:=["thing"]
theorem JO:FnScope zk ["thing"] (qd wa):=⟨rfl,rfl,rfl,by decide +kernel,rfl,by decide +kernel,by decide +kernel⟩
noncomputable def kY:Sl->Out (Fl×Sl):=(km (Ja (d1 (xR "str") (qg 0)) (Ja (d2 eqD (d1 kG (qg 0)) (dC (.int 1))) (uO leD leD (dC (.str "a")) (qg 0) (dC (.str "z"))))))
noncomputable abbrev kZ:List D->Out (D×List D):=vE zk [.val] (kY)
abbrev wI P w K mg base cv:=DefOk P w K mg base cv 1 "is_letter" ["thing"] [.val] .sh (kZ)
theorem JP (Z:Zt K mg cv ca) (T:jO K mg "is_letter" wa ["thing"]):wI P w K mg base cv:=
 qU (k:=0) (own':=[]) (fb:=kY) T JO fun cdv f A outer s H E hr=>(qp (qu (Jb (yJ rfl rfl Z.z_isinstance qZ rfl Z.z_str qaV (vr 0)) (Jb (uN (yl rfl hr.units) (qE (jM rfl) rfl Z.z_len js (vr 0)) qA) (VU (VW Jd Jd kS (vr 0) kS))))))
abbrev vO:Stmt:=top 17
abbrev zl:List Str:=["thing"]
theorem Uq:FnScope zl ["thing"] (qd vO):=⟨rfl,rfl,rfl,by decide +kernel,rfl,by decide +kernel,by decide +kernel⟩
noncomputable def zm:Sl->Out (Fl×Sl):=(jm (sIf (dOr (QZ (Kh (d1 (xR "str") (qg 0)))) (QZ (qR (uO leD leD (dC (.int 1)) (d1 kG (qg 0)) (dC (.int 6)))))) (km (dC (.bl false))) jF)
  (km (d1 Zs (jB [] 1 [] (wt (qg 0)) (gNm 0) ftT (qC [.vl] kZ (qe (qg 0) qF))))))
noncomputable abbrev wJ:List D->Out (D×List D):=vE zl [.val] (zm)
abbrev yq P w K mg base cv:=DefOk P w K mg base cv 2 "is_word" ["thing"] [.val] .sh (wJ)
theorem Ur (Z:Zt K mg cv ca) (T:jO K mg "is_word" vO ["thing"]) (ok_is_letter:wI P w K mg base cv):yq P w K mg base cv:=
 qU (k:=1) (own':=[]) (fb:=zm) T Uq fun cdv f A outer s H E hr=>(qo (jq (PW.pt (uq (jE (jV rfl (yJ rfl rfl Z.z_isinstance qZ rfl Z.z_str qaV (vr 0)) (fun _=>rfl))) (vC (jE (Jc Jd Jd qA (qE (jM rfl) rfl Z.z_len js (vr 0)) (uW Z.c_MOST_LETTERS rfl)))))) (qp (qu xI)) qS)
  (qp (qu (qE (Jq rfl rfl) rfl Z.z_all JL (jG (N:=["sign"]) (nt:=1) (cap:=[]) rfl (wD (names:=(qd vO).names) rfl (by decide +kernel)) (kr (names:=(qd vO).names) (N:=zl) rfl rfl (by decide +kernel)) (jr rfl (vr 0)) (fun fp L s1 H1=>(qy (i:=0) (show bH (["sign"]:List Str) from by decide +kernel) rfl (aI rfl))) (fun fp L s1 H1=>jn) (fun fp L s1 H1=>(qt ok_is_letter hr (by decide) xf rfl (qc (vr 0) ql))))))))
abbrev vw:Stmt:=top 23
abbrev yS:List Str:=["thing"]
theorem Qg:FnScope yS ["thing"] (qd vw):=⟨rfl,rfl,rfl,by decide +kernel,rfl,by decide +kernel,by decide +kernel⟩
noncomputable def wK:Sl->Out (Fl×Sl):=(sIf (QZ (Kh (qC [.vl] wJ (qe (qg 0) qF)))) (ky "NoWord" (qe (dC (.str "a word has 1 to 6 letters from a to z")) qF)) jF)
noncomputable abbrev wL:List D->Out (D×List D):=vE yS [.val] (wK)
abbrev yb P w K mg base cv:=DefOk P w K mg base cv 3 "check_word" ["thing"] [.val] .sh (wL)
theorem Qh (Z:Zt K mg cv ca) (T:jO K mg "check_word" vw ["thing"]) (ok_is_word:yq P w K mg base cv):yb P w K mg base cv:=
 qU (k:=2) (own':=[]) (fb:=wK) T Qg fun cdv f A outer s H E hr=>(qp (jq (jE (jV rfl (qt ok_is_word hr (by decide) qQ rfl (qc (vr 0) ql)) (fun _=>rfl))) (qp (kq rfl (yL rfl) rfl rfl (Z.mref "NoWord" (by decide +kernel)) (Z.xs.val "NoWord" (by decide +kernel)) (Z.xin "NoWord" (by decide +kernel)) (qc kS ql))) qS))
abbrev vx:Stmt:=top 15
abbrev yT:List Str:=["thing", "least", "most"]
theorem Qi:FnScope yT ["thing", "least", "most"] (qd vx):=⟨rfl,rfl,rfl,by decide +kernel,rfl,by decide +kernel,by decide +kernel⟩
noncomputable def vy:Sl->Out (Fl×Sl):=(jm (sIf (dOr (QZ (Kh (d1 (xR "int") (qg 0)))) (Kh (d1 (xR "bool") (qg 0)))) (km (dC (.bl false))) jF)
  (km (uO leD leD (qg 1) (qg 0) (qg 2))))
noncomputable abbrev jQ:List D->Out (D×List D):=vE yT [.val,.val,.val] (vy)
abbrev kM P w K mg base cv:=DefOk P w K mg base cv 1 "is_between" ["thing", "least", "most"] [.val,.val,.val] .sh (jQ)
theorem Qj (Z:Zt K mg cv ca) (T:jO K mg "is_between" vx ["thing", "least", "most"]):kM P w K mg base cv:=
 qU (k:=0) (own':=[]) (fb:=vy) T Qi fun cdv f A outer s H E hr=>(qo (jq (PW.pt (uq (jE (jV rfl (yJ rfl rfl Z.z_isinstance qZ rfl Z.z_int qdX (vr 0)) (fun _=>rfl))) (vC (jV rfl (yJ rfl rfl Z.z_isinstance qZ rfl Z.z_bool qch (vr 0)) (fun _=>rfl))))) (qp (qu xI)) qS)
  (qp (qu (VW Jd Jd (vr 1) (vr 0) (vr 2)))))
abbrev vz:Stmt:=top 25
abbrev yU:List Str:=["thing"]
theorem Qk:FnScope yU ["thing"] (qd vz):=⟨rfl,rfl,rfl,by decide +kernel,rfl,by decide +kernel,by decide +kernel⟩
noncomputable def wM:Sl->Out (Fl×Sl):=(sIf (QZ (Kh (qC [.vl,.vl,.vl] jQ (qe (qg 0) (qe (dC (.int 1)) (qe (dC (.int 99)) qF)))))) (ky "NoRoom" (qe (dC (.str "a room is a whole number from 1 to 99")) qF)) jF)
noncomputable abbrev wN:List D->Out (D×List D):=vE yU [.val] (wM)
abbrev yc P w K mg base cv:=DefOk P w K mg base cv 2 "check_room" ["thing"] [.val] .sh (wN)
theorem Ql (Z:Zt K mg cv ca) (T:jO K mg "check_room" vz ["thing"]) (ok_is_between:kM P w K mg base cv):yc P w K mg base cv:=
 qU (k:=1) (own':=[]) (fb:=wM) T Qk fun cdv f A outer s H E hr=>(qp (jq (jE (jV rfl (qt ok_is_between hr (by decide) qQ rfl (qc (vr 0) (qc qA (qc (uW Z.c_MOST_ROOM rfl) ql)))) (fun _=>rfl))) (qp (kq rfl (yL rfl) rfl rfl (Z.mref "NoRoom" (by decide +kernel)) (Z.xs.val "NoRoom" (by decide +kernel)) (Z.xin "NoRoom" (by decide +kernel)) (qc kS ql))) qS))
abbrev ue:Stmt:=top 20
abbrev gu:List Str:=["thing", "room"]
theorem KU:FnScope gu ["thing", "room"] (qd ue):=⟨rfl,rfl,rfl,by decide +kernel,rfl,by decide +kernel,by decide +kernel⟩
noncomputable def kg:Sl->Out (Fl×Sl):=(jm (sIf (dOr (QZ (Kh (d1 (xR "tuple") (qg 0)))) (qR (d2 neD (d1 kG (qg 0)) (dC (.int 2))))) (km (dC (.bl false))) jF)
  (km (Ja (qC [.vl] kZ (qe (d2 ixD (qg 0) (dC (.int 0))) qF)) (qC [.vl,.vl,.vl] jQ (qe (d2 ixD (qg 0) (dC (.int 1))) (qe (dC (.int 0)) (qe (d2 VQ (qg 1) (dC (.int 1))) qF)))))))
noncomputable abbrev uf:List D->Out (D×List D):=vE gu [.val,.val] (kg)
abbrev zn P w K mg base cv:=DefOk P w K mg base cv 2 "is_worth" ["thing", "room"] [.val,.val] .sh (uf)
theorem KW (Z:Zt K mg cv ca) (T:jO K mg "is_worth" ue ["thing", "room"]) (ok_is_between:kM P w K mg base cv) (ok_is_letter:wI P w K mg base cv):zn P w K mg base cv:=
 qU (k:=1) (own':=[]) (fb:=kg) T KU fun cdv f A outer s H E hr=>(qo (jq (PW.pt (uq (jE (jV rfl (yJ rfl rfl Z.z_isinstance qZ rfl Z.z_tuple vt (vr 0)) (fun _=>rfl))) (vC (qP (xL rfl hr.units) (qE (jM rfl) rfl Z.z_len js (vr 0)) qA)))) (qp (qu xI)) qS)
  (qp (qu (Jb (qt ok_is_letter hr (by decide) qQ rfl (qc (ka rfl hr.units (vr 0) qA (fun _ _=>rfl)) ql)) (VU (qt ok_is_between hr (by decide) qQ rfl (qc (ka rfl hr.units (vr 0) qA (fun _ _=>rfl)) (qc qA (qc (jp xK (vr 1) qA) ql)))))))))
abbrev jt:Stmt:=top 21
abbrev wb:List Str:=["thing", "room", "letters"]
theorem sc_is_worths:FnScope wb ["thing", "room"] (qd jt):=⟨rfl,rfl,rfl,by decide +kernel,rfl,by decide +kernel,by decide +kernel⟩
noncomputable def wc:Sl->Out (Fl×Sl):=(jm (sIf (dOr (QZ (Kh (d1 (xR "tuple") (qg 0)))) (QZ (Kh (d1 Zs (jB [] 1 [1] (wt (qg 0)) (gNm 0) ftT (qC [.vl,.vl] uf (qe (qg 0) (qe (qg 1) qF)))))))) (km (dC (.bl false))) jF)
  (jm (wm 2 (jB [] 1 [] (wt (qg 0)) (gNm 0) ftT (d2 ixD (qg 0) (dC (.int 0)))))
  (km (d2 eqD (qg 2) (d1 jX (qg 2))))))
noncomputable abbrev kh:List D->Out (D×List D):=vE wb [.val,.val] (wc)
abbrev yV P w K mg base cv:=DefOk P w K mg base cv 3 "is_worths" ["thing", "room"] [.val,.val] .sh (kh)
theorem JQ (Z:Zt K mg cv ca) (T:jO K mg "is_worths" jt ["thing", "room"]) (ok_is_worth:zn P w K mg base cv):yV P w K mg base cv:=
 qU (k:=2) (own':=[]) (fb:=wc) T sc_is_worths fun cdv f A outer s H E hr=>(qo (jq (PW.pt (uq (jE (jV rfl (yJ rfl rfl Z.z_isinstance qZ rfl Z.z_tuple vt (vr 0)) (fun _=>rfl))) (vC (jE (jV rfl (qE (Jq rfl rfl) rfl Z.z_all JL (jG (N:=["part", "room"]) (nt:=1) (cap:=[1]) rfl (wD (names:=(qd jt).names) rfl (by decide +kernel)) (kr (names:=(qd jt).names) (N:=wb) rfl rfl (by decide +kernel)) (jr rfl (vr 0)) (fun fp L s1 H1=>(qy (i:=0) (show bH (["part", "room"]:List Str) from by decide +kernel) rfl (aI rfl))) (fun fp L s1 H1=>jn) (fun fp L s1 H1=>(qt ok_is_worth hr (by decide) xf rfl (qc (vr 0) (qc (vr 1) ql)))))) (fun _=>rfl)))))) (qp (qu xI)) qS)
  (qo (Wb (N:=["part"]) (nt:=1) (cap:=[]) sc_is_worths.nd (i:=2) rfl (aI rfl) rfl (wD (names:=(qd jt).names) rfl (by decide +kernel)) (kr (names:=(qd jt).names) (N:=wb) rfl rfl (by decide +kernel)) (jr rfl (vr 0)) (fun fp L s1 H1=>(qy (i:=0) (show bH (["part"]:List Str) from by decide +kernel) rfl (aI rfl))) (fun fp L s1 H1=>jn) (fun fp L s1 H1=>(ka rfl hr.units (vr 0) qA (fun _ _=>rfl))))
  (VX [2] (qp (qu (uN (yl rfl hr.units) (vr 2) (ud rfl rfl rfl Z.z_sorted ya rfl Z.z_set zi (vr 2))))))))
abbrev kl:Stmt:=top 26
abbrev uw:List Str:=["thing", "room"]
theorem zo:FnScope uw ["thing", "room"] (qd kl):=⟨rfl,rfl,rfl,by decide +kernel,rfl,by decide +kernel,by decide +kernel⟩
noncomputable def vH:Sl->Out (Fl×Sl):=(sIf (QZ (Kh (qC [.vl,.vl] kh (qe (qg 0) (qe (qg 1) qF))))) (ky "NoWorths" (qe (dC (.str "worths are a rising tuple of unlike letters, each with a number within the room")) qF)) jF)
noncomputable abbrev vI:List D->Out (D×List D):=vE uw [.val,.val] (vH)
abbrev wO P w K mg base cv:=DefOk P w K mg base cv 4 "check_worths" ["thing", "room"] [.val,.val] .sh (vI)
theorem zp (Z:Zt K mg cv ca) (T:jO K mg "check_worths" kl ["thing", "room"]) (ok_is_worths:yV P w K mg base cv):wO P w K mg base cv:=
 qU (k:=3) (own':=[]) (fb:=vH) T zo fun cdv f A outer s H E hr=>(qp (jq (jE (jV rfl (qt ok_is_worths hr (by decide) qQ rfl (qc (vr 0) (qc (vr 1) ql))) (fun _=>rfl))) (qp (kq rfl (yL rfl) rfl rfl (Z.mref "NoWorths" (by decide +kernel)) (Z.xs.val "NoWorths" (by decide +kernel)) (Z.xin "NoWorths" (by decide +kernel)) (qc kS ql))) qS))
abbrev kQ:Stmt:=top 18
abbrev yr:List Str:=["thing"]
theorem KY:FnScope yr ["thing"] (qd kQ):=⟨rfl,rfl,rfl,by decide +kernel,rfl,by decide +kernel,by decide +kernel⟩
noncomputable def yt:Sl->Out (Fl×Sl):=(jm (sIf (dOr (QZ (Kh (d1 (xR "tuple") (qg 0)))) (QZ (qR (uO leD leD (dC (.int 1)) (d1 kG (qg 0)) (dC (.int 6)))))) (km (dC (.bl false))) jF)
  (km (Ja (d1 Zs (jB [] 1 [] (wt (qg 0)) (gNm 0) ftT (qC [.vl] wJ (qe (qg 0) qF)))) (d2 eqD (d1 gY (qg 0)) (d1 kG (qg 0))))))
noncomputable abbrev yu:List D->Out (D×List D):=vE yr [.val] (yt)
abbrev zq P w K mg base cv:=DefOk P w K mg base cv 3 "is_words" ["thing"] [.val] .sh (yu)
theorem KZ (Z:Zt K mg cv ca) (T:jO K mg "is_words" kQ ["thing"]) (ok_is_word:yq P w K mg base cv):zq P w K mg base cv:=
 qU (k:=2) (own':=[]) (fb:=yt) T KY fun cdv f A outer s H E hr=>(qo (jq (PW.pt (uq (jE (jV rfl (yJ rfl rfl Z.z_isinstance qZ rfl Z.z_tuple vt (vr 0)) (fun _=>rfl))) (vC (jE (Jc Jd Jd qA (qE (jM rfl) rfl Z.z_len js (vr 0)) (uW Z.c_MOST_WORDS rfl)))))) (qp (qu xI)) qS)
  (qp (qu (Jb (qE (Jq rfl rfl) rfl Z.z_all JL (jG (N:=["part"]) (nt:=1) (cap:=[]) rfl (wD (names:=(qd kQ).names) rfl (by decide +kernel)) (kr (names:=(qd kQ).names) (N:=yr) rfl rfl (by decide +kernel)) (jr rfl (vr 0)) (fun fp L s1 H1=>(qy (i:=0) (show bH (["part"]:List Str) from by decide +kernel) rfl (aI rfl))) (fun fp L s1 H1=>jn) (fun fp L s1 H1=>(qt ok_is_word hr (by decide) xf rfl (qc (vr 0) ql))))) (VU (uN (yl rfl hr.units) (Xf rfl rfl rfl Z.z_len js rfl Z.z_set zi (vr 0)) (qE (jM rfl) rfl Z.z_len js (vr 0))))))))
abbrev kN:Stmt:=top 22
abbrev yd:List Str:=["thing"]
theorem zW:FnScope yd ["thing"] (qd kN):=⟨rfl,rfl,rfl,by decide +kernel,rfl,by decide +kernel,by decide +kernel⟩
noncomputable def we:Sl->Out (Fl×Sl):=(sIf (QZ (Kh (qC [.vl] yu (qe (qg 0) qF)))) (ky "NoWords" (qe (dC (.str "words are a tuple of 1 to 6 unlike words of 1 to 6 letters from a to z")) qF)) jF)
noncomputable abbrev wf:List D->Out (D×List D):=vE yd [.val] (we)
abbrev ux P w K mg base cv:=DefOk P w K mg base cv 4 "check_words" ["thing"] [.val] .sh (wf)
theorem zX (Z:Zt K mg cv ca) (T:jO K mg "check_words" kN ["thing"]) (ok_is_words:zq P w K mg base cv):ux P w K mg base cv:=
 qU (k:=3) (own':=[]) (fb:=we) T zW fun cdv f A outer s H E hr=>(qp (jq (jE (jV rfl (qt ok_is_words hr (by decide) qQ rfl (qc (vr 0) ql)) (fun _=>rfl))) (qp (kq rfl (yL rfl) rfl rfl (Z.mref "NoWords" (by decide +kernel)) (Z.xs.val "NoWords" (by decide +kernel)) (Z.xin "NoWords" (by decide +kernel)) (qc kS ql))) qS))
abbrev vP:Stmt:=top 19
abbrev zr:List Str:=["thing"]
theorem Us:FnScope zr ["thing"] (qd vP):=⟨rfl,rfl,rfl,by decide +kernel,rfl,by decide +kernel,by decide +kernel⟩
noncomputable def zt:Sl->Out (Fl×Sl):=(jm (sIf (dOr (QZ (Kh (d1 (xR "tuple") (qg 0)))) (qR (d2 neD (d1 kG (qg 0)) (dC (.int 2))))) (km (dC (.bl false))) jF)
  (km (d1 Zs (jB [] 1 [] (wt (qg 0)) (gNm 0) ftT (qC [.vl,.vl,.vl] jQ (qe (qg 0) (qe (dC (.int (-3))) (qe (dC (.int 2)) qF))))))))
noncomputable abbrev zu:List D->Out (D×List D):=vE zr [.val] (zt)
abbrev gx P w K mg base cv:=DefOk P w K mg base cv 2 "is_look" ["thing"] [.val] .sh (zu)
theorem Ut (Z:Zt K mg cv ca) (T:jO K mg "is_look" vP ["thing"]) (ok_is_between:kM P w K mg base cv):gx P w K mg base cv:=
 qU (k:=1) (own':=[]) (fb:=zt) T Us fun cdv f A outer s H E hr=>(qo (jq (PW.pt (uq (jE (jV rfl (yJ rfl rfl Z.z_isinstance qZ rfl Z.z_tuple vt (vr 0)) (fun _=>rfl))) (vC (qP (xL rfl hr.units) (qE (jM rfl) rfl Z.z_len js (vr 0)) qA)))) (qp (qu xI)) qS)
  (qp (qu (qE (Jq rfl rfl) rfl Z.z_all JL (jG (N:=["place"]) (nt:=1) (cap:=[]) rfl (wD (names:=(qd vP).names) rfl (by decide +kernel)) (kr (names:=(qd vP).names) (N:=zr) rfl rfl (by decide +kernel)) (jr rfl (vr 0)) (fun fp L s1 H1=>(qy (i:=0) (show bH (["place"]:List Str) from by decide +kernel) rfl (aI rfl))) (fun fp L s1 H1=>jn) (fun fp L s1 H1=>(qt ok_is_between hr (by decide) xf rfl (qc (vr 0) (qc (uW Z.c_LEAST_PLACE rfl) (qc (uW Z.c_MOST_PLACE rfl) ql))))))))))
abbrev vA:Stmt:=top 24
abbrev yW:List Str:=["thing"]
theorem Qm:FnScope yW ["thing"] (qd vA):=⟨rfl,rfl,rfl,by decide +kernel,rfl,by decide +kernel,by decide +kernel⟩
noncomputable def wP:Sl->Out (Fl×Sl):=(sIf (QZ (Kh (qC [.vl] zu (qe (qg 0) qF)))) (ky "NoLook" (qe (dC (.str "a look is a tuple of two places from -3 to 2")) qF)) jF)
noncomputable abbrev wQ:List D->Out (D×List D):=vE yW [.val] (wP)
abbrev ye P w K mg base cv:=DefOk P w K mg base cv 3 "check_look" ["thing"] [.val] .sh (wQ)
theorem Qn (Z:Zt K mg cv ca) (T:jO K mg "check_look" vA ["thing"]) (ok_is_look:gx P w K mg base cv):ye P w K mg base cv:=
 qU (k:=2) (own':=[]) (fb:=wP) T Qm fun cdv f A outer s H E hr=>(qp (jq (jE (jV rfl (qt ok_is_look hr (by decide) qQ rfl (qc (vr 0) ql)) (fun _=>rfl))) (qp (kq rfl (yL rfl) rfl rfl (Z.mref "NoLook" (by decide +kernel)) (Z.xs.val "NoLook" (by decide +kernel)) (Z.xin "NoLook" (by decide +kernel)) (qc kS ql))) qS))
abbrev wg:Stmt:=top 28
abbrev zv:List Str:=["word", "place", "at"]
theorem sc_letter_at:FnScope zv ["word", "place"] (qd wg):=⟨rfl,rfl,rfl,by decide +kernel,rfl,by decide +kernel,by decide +kernel⟩
noncomputable def wj:Sl->Out (Fl×Sl):=(jm (wm 2 (dIf (qR (d2 geD (qg 1) (dC (.int 0)))) (qg 1) (d2 vD (d1 kG (qg 0)) (qg 1))))
  (km (d2 ixD (qg 0) (d2 qeA (dC (.int 0)) (d2 qeB (qg 2) (d2 VQ (d1 kG (qg 0)) (dC (.int 1))))))))
noncomputable abbrev va:List D->Out (D×List D):=vE zv [.val,.val] (wj)
abbrev yX P w K mg base cv:=DefOk P w K mg base cv 1 "letter_at" ["word", "place"] [.val,.val] .sh (va)
theorem JR (Z:Zt K mg cv ca) (T:jO K mg "letter_at" wg ["word", "place"]):yX P w K mg base cv:=
 qU (k:=0) (own':=[]) (fb:=wj) T sc_letter_at fun cdv f A outer s H E hr=>(qo (jb (i:=2) sc_letter_at.nd rfl (aI rfl) (ZY (qP qbB (vr 1) qA) (vr 1) (jp (ko rfl) (qE (jM rfl) rfl Z.z_len js (vr 0)) (vr 1))))
  (qp (qu (ka rfl hr.units (vr 0) (Jp (qdw rfl) rfl Z.z_max qdY qA (Jp (qdx rfl) rfl Z.z_min qdZ (vr 2) (jp xK (qE (jM rfl) rfl Z.z_len js (vr 0)) qA))) (fun _ _=>rfl)))))
abbrev yv:Stmt:=top 29
abbrev Va:List Str:=["words", "look"]
theorem GN:FnScope Va ["words", "look"] (qd yv):=⟨rfl,rfl,rfl,by decide +kernel,rfl,by decide +kernel,by decide +kernel⟩
noncomputable def Vb:Sl->Out (Fl×Sl):=(jm (wx (qC [.vl] wf (qe (qg 0) qF)))
  (jm (wx (qC [.vl] wQ (qe (qg 1) qF)))
  (km (jB [] 1 [1] (wt (qg 0)) (gNm 0) ftT (yk (qe (qC [.vl,.vl] va (qe (qg 0) (qe (d2 ixD (qg 1) (dC (.int 0))) qF))) (qe (qC [.vl,.vl] va (qe (qg 0) (qe (d2 ixD (qg 1) (dC (.int 1))) qF))) qF)))))))
noncomputable abbrev Vc:List D->Out (D×List D):=vE Va [.val,.val] (Vb)
abbrev Wx P w K mg base cv:=DefOk P w K mg base cv 5 "pairs" ["words", "look"] [.val,.val] .sh (Vc)
theorem GO (Z:Zt K mg cv ca) (T:jO K mg "pairs" yv ["words", "look"]) (ok_check_words:ux P w K mg base cv) (ok_check_look:ye P w K mg base cv) (ok_letter_at:yX P w K mg base cv):Wx P w K mg base cv:=
 qU (k:=4) (own':=[]) (fb:=Vb) T GN fun cdv f A outer s H E hr=>(qo (jW (qt ok_check_words hr (by decide) qQ rfl (qc (vr 0) ql)))
  (qo (jW (qt ok_check_look hr (by decide) qQ rfl (qc (vr 1) ql)))
  (qp (qu (jG (N:=["word", "look"]) (nt:=1) (cap:=[1]) rfl (wD (names:=(qd yv).names) rfl (by decide +kernel)) (kr (names:=(qd yv).names) (N:=Va) rfl rfl (by decide +kernel)) (jr rfl (vr 0)) (fun fp L s1 H1=>(qy (i:=0) (show bH (["word", "look"]:List Str) from by decide +kernel) rfl (aI rfl))) (fun fp L s1 H1=>jn) (fun fp L s1 H1=>(kT (qc (qt ok_letter_at hr (by decide) xf rfl (qc (vr 0) (qc (ka rfl hr.units (vr 1) qA (fun _ _=>rfl)) ql))) (qc (qt ok_letter_at hr (by decide) xf rfl (qc (vr 0) (qc (ka rfl hr.units (vr 1) qA (fun _ _=>rfl)) ql))) ql)))))))))
abbrev jf:Stmt:=top 30
abbrev vB:List Str:=["seen"]
theorem Qo:FnScope vB ["seen"] (qd jf):=⟨rfl,rfl,rfl,by decide +kernel,rfl,by decide +kernel,by decide +kernel⟩
noncomputable def wR:Sl->Out (Fl×Sl):=(km (d1 jX (d2 vD (jB [] 1 [] (wt (qg 0)) (gNm 0) ftT (d2 ixD (qg 0) (dC (.int 0)))) (jB [] 1 [] (wt (qg 0)) (gNm 0) ftT (d2 ixD (qg 0) (dC (.int 1)))))))
noncomputable abbrev kx:List D->Out (D×List D):=vE vB [.val] (wR)
abbrev yf P w K mg base cv:=DefOk P w K mg base cv 1 "letters_of" ["seen"] [.val] .sh (kx)
theorem Qp (Z:Zt K mg cv ca) (T:jO K mg "letters_of" jf ["seen"]):yf P w K mg base cv:=
 qU (k:=0) (own':=[]) (fb:=wR) T Qo fun cdv f A outer s H E hr=>(qp (qu (ud rfl rfl rfl Z.z_sorted ya rfl Z.z_set zi (jp (ko rfl) (jG (N:=["pair"]) (nt:=1) (cap:=[]) rfl (wD (names:=(qd jf).names) rfl (by decide +kernel)) (kr (names:=(qd jf).names) (N:=vB) rfl rfl (by decide +kernel)) (jr rfl (vr 0)) (fun fp L s1 H1=>(qy (i:=0) (show bH (["pair"]:List Str) from by decide +kernel) rfl (aI rfl))) (fun fp L s1 H1=>jn) (fun fp L s1 H1=>(ka rfl hr.units (vr 0) qA (fun _ _=>rfl)))) (jG (N:=["pair"]) (nt:=1) (cap:=[]) rfl (wD (names:=(qd jf).names) rfl (by decide +kernel)) (kr (names:=(qd jf).names) (N:=vB) rfl rfl (by decide +kernel)) (jr rfl (vr 0)) (fun fp L s1 H1=>(qy (i:=0) (show bH (["pair"]:List Str) from by decide +kernel) rfl (aI rfl))) (fun fp L s1 H1=>jn) (fun fp L s1 H1=>(ka rfl hr.units (vr 0) qA (fun _ _=>rfl))))))))
abbrev xw:Stmt:=top 31
abbrev Wy:List Str:=["total", "room"]
theorem XC:FnScope Wy ["total", "room"] (qd xw):=⟨rfl,rfl,rfl,by decide +kernel,rfl,by decide +kernel,by decide +kernel⟩
noncomputable def Qq:Sl->Out (Fl×Sl):=(km (dIf (qR (d2 geD (qg 0) (qg 1))) (d2 VQ (qg 0) (qg 1)) (qg 0)))
noncomputable abbrev xx:List D->Out (D×List D):=vE Wy [.val,.val] (Qq)
abbrev JS P w K mg base cv:=DefOk P w K mg base cv 1 "within" ["total", "room"] [.val,.val] .sh (xx)
theorem XD (Z:Zt K mg cv ca) (T:jO K mg "within" xw ["total", "room"]):JS P w K mg base cv:=
 qU (k:=0) (own':=[]) (fb:=Qq) T XC fun cdv f A outer s H E hr=>(qp (qu (ZY (qP qbB (vr 0) (vr 1)) (jp xK (vr 0) (vr 1)) (vr 0))))
abbrev jR:Stmt:=top 32
abbrev ug:List Str:=["words", "look", "room", "worths", "seen", "worth_of"]
theorem sc_numbered:FnScope ug ["words", "look", "room", "worths"] (qd jR):=⟨rfl,rfl,rfl,by decide +kernel,rfl,by decide +kernel,by decide +kernel⟩
noncomputable def uh:Sl->Out (Fl×Sl):=(jm (wm 4 (qC [.vl,.vl] Vc (qe (qg 0) (qe (qg 1) qF))))
  (jm (wx (qC [.vl] wN (qe (qg 2) qF)))
  (jm (wx (qC [.vl,.vl] vI (qe (qg 3) (qe (qg 2) qF))))
  (jm (wm 5 (d1 zR (qg 3)))
  (jm (sIf (QZ (Kh (d1 Zs (jB [] 1 [5] (wt (qC [.vl] kx (qe (qg 4) qF))) (gNm 0) ftT (d2 inA (qg 0) (qg 1)))))) (ky "NoWorths" (qe (dC (.str "a letter that is seen has no worth")) qF)) jF)
  (km (d1 uX (jB [] 1 [2,5] (wt (qg 4)) (gNm 0) ftT (qC [.vl,.vl] xx (qe (d2 vD (d2 ixD (qg 2) (d2 ixD (qg 0) (dC (.int 0)))) (d2 ixD (qg 2) (d2 ixD (qg 0) (dC (.int 1))))) (qe (qg 1) qF)))))))))))
noncomputable abbrev jS:List D->Out (D×List D):=vE ug [.val,.val,.val,.val] (uh)
abbrev uI P w K mg base cv:=DefOk P w K mg base cv 6 "numbered" ["words", "look", "room", "worths"] [.val,.val,.val,.val] .sh (jS)
theorem Vd (Z:Zt K mg cv ca) (T:jO K mg "numbered" jR ["words", "look", "room", "worths"]) (ok_check_room:yc P w K mg base cv) (ok_check_worths:wO P w K mg base cv) (ok_pairs:Wx P w K mg base cv) (ok_letters_of:yf P w K mg base cv) (ok_within:JS P w K mg base cv):uI P w K mg base cv:=
 qU (k:=5) (own':=[]) (fb:=uh) T sc_numbered fun cdv f A outer s H E hr=>(qo (jb (i:=4) sc_numbered.nd rfl (aI rfl) (qt ok_pairs hr (by decide) qQ rfl (qc (vr 0) (qc (vr 1) ql))))
  (qo (jW (qt ok_check_room hr (by decide) qQ rfl (qc (vr 2) ql)))
  (qo (jW (qt ok_check_worths hr (by decide) qQ rfl (qc (vr 3) (qc (vr 2) ql))))
  (qo (jb (i:=5) sc_numbered.nd rfl (c9 rfl) (kn (YL rfl rfl) rfl Z.z_dict XA (vr 3)))
  (qo (jq (jE (jV rfl (qE (Jq rfl rfl) rfl Z.z_all JL (jG (N:=["letter", "worth_of"]) (nt:=1) (cap:=[5]) rfl (wD (names:=(qd jR).names) rfl (by decide +kernel)) (kr (names:=(qd jR).names) (N:=ug) rfl rfl (by decide +kernel)) (jr rfl (qt ok_letters_of hr (by decide) qQ rfl (qc (vr 4) ql))) (fun fp L s1 H1=>(qy (i:=0) (show bH (["letter", "worth_of"]:List Str) from by decide +kernel) rfl (aI rfl))) (fun fp L s1 H1=>jn) (fun fp L s1 H1=>(uN (qaL rfl hr.units) (vr 0) (vr 1))))) (fun _=>rfl))) (qp (kq rfl (yL rfl) rfl rfl (Z.mref "NoWorths" (by decide +kernel)) (Z.xs.val "NoWorths" (by decide +kernel)) (Z.xin "NoWorths" (by decide +kernel)) (qc kS ql))) qS)
  (qp (qu (kn (xq rfl) rfl Z.z_tuple vt (jG (N:=["pair", "room", "worth_of"]) (nt:=1) (cap:=[2,5]) rfl (wD (names:=(qd jR).names) rfl (by decide +kernel)) (kr (names:=(qd jR).names) (N:=ug) rfl rfl (by decide +kernel)) (jr rfl (vr 4)) (fun fp L s1 H1=>(qy (i:=0) (show bH (["pair", "room", "worth_of"]:List Str) from by decide +kernel) rfl (aI rfl))) (fun fp L s1 H1=>jn) (fun fp L s1 H1=>(qt ok_within hr (by decide) xf rfl (qc (jp (ko rfl) (ka rfl hr.units (vr 2) (ka rfl hr.units (vr 0) qA (fun _ _=>rfl)) (fun _ _=>rfl)) (ka rfl hr.units (vr 2) (ka rfl hr.units (vr 0) qA (fun _ _=>rfl)) (fun _ _=>rfl))) (qc (vr 1) ql)))))))))))))
abbrev qW:Stmt:=xH (top 34) 2
abbrev wo:List Str:=["self", "word", "number"]
theorem sc_Book_found_for:FnScope wo ["self", "word"] (qd qW):=⟨rfl,rfl,rfl,by decide +kernel,rfl,by decide +kernel,by decide +kernel⟩
noncomputable def jD (ca:Str->Addr):Sl->Out (Fl×Sl):=(jm (qaI 3 none (qaJ ca ["NoWorths"]) (wm 2 (d2 ixD (qC [.vl,.vl,.vl,.vl] jS (qe (yk (qe (qg 1) qF)) (qe (d1 (zS (ca "Book") "look") (qg 0)) (qe (d1 (zS (ca "Book") "width") (qg 0)) (qe (d1 (zS (ca "Book") "worths") (qg 0)) qF))))) (dC (.int 0)))) (km (dC .non)))
  (km (d2 ixD (d1 (zS (ca "Book") "standing") (qg 0)) (qg 2))))
noncomputable abbrev kz (ca:Str->Addr):List D->Out (D×List D):=vE wo [.val,.val] (jD ca)
abbrev vQ (ca:Str->Addr) P w K mg base cv:=Xw P w K mg base cv 7 (ca "Book") "found_for" ["self", "word"] [.val,.val] .sh (kz ca)
theorem yw (Z:Zt K mg cv ca) (T:zU K (ca "Book") "found_for" "Book.found_for" qW ["self", "word"]) (ok_numbered:uI P w K mg base cv):vQ ca P w K mg base cv:=
 qb5 (k:=6) (own':=[]) (fb:=jD ca) T sc_Book_found_for fun cdv f A outer s H E hr=>(qo (Gf (own2:=[]) (n:=3) rfl rfl rfl rfl (Z.mref "NoWorths" (by decide +kernel)) (qgr (Z.xs.val "NoWorths" (by decide +kernel)) Z.s_NoWorths) rfl (fun pn xe E hx=>(qp (jb (i:=2) sc_Book_found_for.nd rfl (aI rfl) (ka rfl hr.units (qt ok_numbered hr (by decide) hx rfl (qc (kT (qc (vr 1) ql)) (qc (wH rfl Z.b_cls (Z.b_no "look" (by decide +kernel)) (vr 0)) (qc (wH rfl Z.b_cls (Z.b_no "width" (by decide +kernel)) (vr 0)) (qc (wH rfl Z.b_cls (Z.b_no "worths" (by decide +kernel)) (vr 0)) ql))))) qA (fun _ _=>rfl))))) (fun e=>(qp (qu xJ))))
  (qp (qu (ka rfl hr.units (wH rfl Z.b_cls (Z.b_no "standing" (by decide +kernel)) (vr 0)) (vr 2) (fun _ _=>rfl)))))
abbrev kR:Stmt:=xH (top 34) 3
abbrev gy:List Str:=["self", "word", "#a", "found"]
theorem sc_Book_ask:FnScope gy ["self", "word"] (qd kR):=⟨rfl,rfl,rfl,by decide +kernel,rfl,by decide +kernel,by decide +kernel⟩
noncomputable def yx (ca:Str->Addr):Sl->Out (Fl×Sl):=(jm (wx (qC [.vl] wL (qe (qg 1) qF)))
  (jm (wm 3 (Xy (ca "Book") "found_for" (kz ca) (qg 0) (qe (qg 1) qF)))
  (jm (wx (qb7 2 (d1 (zS (ca "Book") "asked") (qg 0)) (yk (qe (qg 1) (qe (qg 3) qF)))))
  (km (dIf (qR (d2 eqD (qg 3) (qg 1))) (dM qfp yQ (d1 (zS (ca "Book") "standing") (qg 0)) (qg 1)) (dC .non))))))
noncomputable abbrev ki (ca:Str->Addr):List D->Out (D×List D):=vE gy [.val,.val,.io] (yx ca)
abbrev zw (ca:Str->Addr) P w K mg base cv:=KQ P w K mg base cv 8 (ca "Book") "ask" ["self", "word"] [.val,.val,.io] .sh (ki ca)
theorem Ve (Z:Zt K mg cv ca) (T:zU K (ca "Book") "ask" "Book.ask" kR ["self", "word"]) (ok_check_word:yb P w K mg base cv) (ok_Book_found_for:vQ ca P w K mg base cv):zw ca P w K mg base cv:=
 Qe (k:=7) (own':=[2]) (fb:=yx ca) T sc_Book_ask "#a" fun cdv f A outer s H E hr=>(qo (jW (qt ok_check_word hr (by decide) qQ rfl (qc (vr 1) ql)))
  (qo (jb (i:=3) sc_Book_ask.nd rfl (aI rfl) (GL Z.b_cls ok_Book_found_for hr (by decide) qQ (vr 0) (qc (vr 1) ql)))
  (qo (jW (qb9 (g:=2) rfl (by decide) (wH rfl Z.b_cls (Z.b_no "asked" (by decide +kernel)) (vr 0)) (kT (qc (vr 1) (qc (vr 3) ql)))))
  (qp (qu (ZY (qP (yl rfl hr.units) (vr 3) (vr 1)) (GB PySem.F.slot_list_index PySem.F.type_list_index (GC rfl hr.units) rfl (wH rfl Z.b_cls (Z.b_no "standing" (by decide +kernel)) (vr 0)) (vr 1)) xJ))))))
abbrev jc:Stmt:=xH (top 34) 0
abbrev vb:List Str:=["self", "words", "look", "room", "worths", "numbers", "word", "number"]
theorem sc_Book___init__:FnScope vb ["self", "words", "look", "room", "worths"] (qd jc):=⟨rfl,rfl,rfl,by decide +kernel,rfl,by decide +kernel,by decide +kernel⟩
noncomputable def vc (ca:Str->Addr):Sl->Out (Fl×Sl):=(jm (wm 5 (qC [.vl,.vl,.vl,.vl] jS (qe (qg 1) (qe (qg 2) (qe (qg 3) (qe (qg 4) qF))))))
  (jm (sIf (qR (d2 ltD (d1 kK (qg 5)) (d1 kG (qg 5)))) (ky "Never" (qe (dC (.str "two words have one number")) qF)) jF)
  (jm (Xv (ca "Book") 0 "look" (qg 2))
  (jm (Xv (ca "Book") 0 "width" (qg 3))
  (jm (Xv (ca "Book") 0 "worths" (qg 4))
  (JH (ca "Book") 0 "standing" (d2 qdL (xM (qe (dC .non) qF)) (qg 3)) (qfe (qe (qg 1) (qe (qg 5) qF))) (uD 2 (ja (gNm 6) (ja (gNm 7) uC))) (qg 6) (qg 7)))))))
noncomputable abbrev ju (ca:Str->Addr):List D->Out (List (Str×D)):=qcJ (ca "Book") vb (vc ca)
abbrev wp (ca:Str->Addr) P w K mg base cv:=qcb P w K mg base cv 7 (ca "Book") "asked" ["self", "words", "look", "room", "worths"] 4 (ju ca)
theorem xh (Z:Zt K mg cv ca) (T:qb4 K (ca "Book") "Book.__init__" jc ["self", "words", "look", "room", "worths"]) (ok_numbered:uI P w K mg base cv):wp ca P w K mg base cv:=
 GJ (k:=6) (n:=4) (cv:=cv) T sc_Book___init__ Z.b_cls (Z.b_no "asked" (by decide +kernel)) fun cdv f A outer s H E hr=>(vN (jb (i:=5) sc_Book___init__.nd rfl (aI rfl) (qt ok_numbered hr (by decide) qQ rfl (qc (vr 1) (qc (vr 2) (qc (vr 3) (qc (vr 4) ql))))))
  (vN (jq (qP qdk (gt rfl rfl rfl Z.z_len js rfl Z.z_set zi (vr 5)) (qE (jM rfl) rfl Z.z_len js (vr 5))) (qp (kq rfl (yL rfl) rfl rfl (Z.mref "Never" (by decide +kernel)) (Z.xs.val "Never" (by decide +kernel)) (Z.xin "Never" (by decide +kernel)) (qc kS ql))) qS)
  (vN (KO rfl Z.b_cls (Z.b_no "look" (by decide +kernel)) (i:=0) rfl (aI rfl) (by decide) (vr 2))
  (vN (KO rfl Z.b_cls (Z.b_no "width" (by decide +kernel)) (i:=0) rfl (aI rfl) (by decide) (vr 3))
  (vN (KO rfl Z.b_cls (Z.b_no "worths" (by decide +kernel)) (i:=0) rfl (aI rfl) (by decide) (vr 4))
  (Xx (own:=[0]) (own1:=[]) rfl (fun j=>by simp) Z.b_cls (Z.b_no "standing" (by decide +kernel)) (i:=0) rfl (aI rfl) (by decide) (qfq rfl) cK rfl (jp (qb1 rfl) (vn (qc xJ ql)) (vr 3)) (qbV rfl rfl Z.z_zip (vr 1) (vr 5)) (ym rfl rfl (qN (qy (i:=6) sc_Book___init__.nd rfl (aI rfl)) (qN (qy (i:=7) sc_Book___init__.nd rfl (aI rfl)) ub))) (vr 6) (vr 7)
  (Km (UQ (vm (i:=0) rfl (aI rfl)) (vn ql) rfl))))))))
abbrev ui:Stmt:=top 36
abbrev gz:List Str:=["_law_script", "_law_k"]
theorem Vf:FnScope gz ["_law_script", "_law_k"] (qd ui):=⟨rfl,rfl,rfl,by decide +kernel,rfl,by decide +kernel,by decide +kernel⟩
noncomputable def vR:Sl->Out (Fl×Sl):=(jm (sIf (qR (d2 ltD (qg 1) (d1 kG (qg 0)))) (km (d2 ixD (qg 0) (qg 1))) jF)
  (jm (sIf (qR (d2 eqD (qg 0) (xM qF))) (km (dC (.int 0))) jF)
  (km (d2 vD (d2 qcE (d2 ixD (qg 0) (d2 Yj (qg 1) (d1 kG (qg 0)))) (dC (.int 31))) (qg 1)))))
noncomputable abbrev yy:List D->Out (D×List D):=vE gz [.val,.val] (vR)
abbrev zx P w K mg base cv:=DefOk P w K mg base cv 1 "_law_cell_at" ["_law_script", "_law_k"] [.val,.val] .sh (yy)
theorem Vg (Z:Zt K mg cv ca) (T:jO K mg "_law_cell_at" ui ["_law_script", "_law_k"]):zx P w K mg base cv:=
 qU (k:=0) (own':=[]) (fb:=vR) T Vf fun cdv f A outer s H E hr=>(qo (jq (qP qdk (vr 1) (qE (jM rfl) rfl Z.z_len js (vr 0))) (qp (qu (ka rfl hr.units (vr 0) (vr 1) (fun _ _=>rfl)))) qS)
  (qo (jq (qP (yl rfl hr.units) (vr 0) (vn ql)) (qp (qu qA)) qS)
  (qp (qu (jp (ko rfl) (jp Yi (ka rfl hr.units (vr 0) (jp gf (vr 1) (qE (jM rfl) rfl Z.z_len js (vr 0))) (fun _ _=>rfl)) qA) (vr 1))))))
abbrev xy:Stmt:=top 37
abbrev Wz:List Str:=["_law_script", "_law_k", "_law_many", "_law_drawn"]
theorem sc_Lmixed:FnScope Wz ["_law_script", "_law_k", "_law_many"] (qd xy):=⟨rfl,rfl,rfl,by decide +kernel,rfl,by decide +kernel,by decide +kernel⟩
noncomputable def Qr:Sl->Out (Fl×Sl):=(jm (wm 3 (d2 Yj (d2 vD (d2 vD (d2 qcE (qC [.vl,.vl] yy (qe (qg 0) (qe (qg 1) qF))) (dC (.int 1103515245))) (d2 qcE (dC (.int 7919)) (qg 1))) (dC (.int 12345))) (dC (.int 2147483647))))
  (km (d2 Yj (d2 Yj (d2 Yj (d2 qfo (qg 3) (dC (.int 5))) (dC (.int 2147483647))) (dC (.int 999983))) (qg 2))))
noncomputable abbrev Qs:List D->Out (D×List D):=vE Wz [.val,.val,.val] (Qr)
abbrev JT P w K mg base cv:=DefOk P w K mg base cv 2 "_law_mixed" ["_law_script", "_law_k", "_law_many"] [.val,.val,.val] .sh (Qs)
theorem XE (Z:Zt K mg cv ca) (T:jO K mg "_law_mixed" xy ["_law_script", "_law_k", "_law_many"]) (ok_Lcell_at:zx P w K mg base cv):JT P w K mg base cv:=
 qU (k:=1) (own':=[]) (fb:=Qr) T sc_Lmixed fun cdv f A outer s H E hr=>(qo (jb (i:=3) sc_Lmixed.nd rfl (aI rfl) (jp gf (jp (ko rfl) (jp (ko rfl) (jp Yi (qt ok_Lcell_at hr (by decide) qQ rfl (qc (vr 0) (qc (vr 1) ql))) qA) (jp Yi qA (vr 1))) qA) qA))
  (qp (qu (jp gf (jp gf (jp gf (jp qdK (vr 3) qA) qA) qA) (vr 2)))))
abbrev Qt:Stmt:=top 38
abbrev XF:List Str:=["_law_script", "_law_town", "_law_many"]
theorem GP:FnScope XF ["_law_script", "_law_town", "_law_many"] (qd Qt):=⟨rfl,rfl,rfl,by decide +kernel,rfl,by decide +kernel,by decide +kernel⟩
noncomputable def Vh:Sl->Out (Fl×Sl):=(jm (wx (KD 1 We (dC (.int 0))))
  (km (qC [.vl,.vl,.vl] Qs (qe (qg 0) (qe (d1 kG (qg 1)) (qe (qg 2) qF))))))
noncomputable abbrev kB:List D->Out (D×List D):=vE XF [.val,.io,.val] (Vh)
abbrev wk P w K mg base cv:=DefOk P w K mg base cv 3 "_law_draw" ["_law_script", "_law_town", "_law_many"] [.val,.io,.val] .sh (kB)
theorem GQ (Z:Zt K mg cv ca) (T:jO K mg "_law_draw" Qt ["_law_script", "_law_town", "_law_many"]) (ok_Lmixed:JT P w K mg base cv):wk P w K mg base cv:=
 qU (k:=2) (own':=[1]) (fb:=Vh) T GP fun cdv f A outer s H E hr=>(qo (jW (uV (i:=1) rfl rfl (aI rfl) (by decide) qA))
  (qp (qu (qt ok_Lmixed hr (by decide) qQ rfl (qc (vr 0) (qc (qE (jM rfl) rfl Z.z_len js (gK (i:=1) rfl (aI rfl) (by decide))) (qc (vr 2) ql)))))))
abbrev Qu:Stmt:=top 39
abbrev XG:List Str:=["_law_script", "_law_town", "_law_some"]
theorem GR:FnScope XG ["_law_script", "_law_town", "_law_some"] (qd Qu):=⟨rfl,rfl,rfl,by decide +kernel,rfl,by decide +kernel,by decide +kernel⟩
noncomputable def Vi:Sl->Out (Fl×Sl):=(km (d2 ixD (qg 2) (qC [.vl,.sl 1,.vl] kB (qe (qg 0) (kE (qe (d1 kG (qg 2)) qF))))))
noncomputable abbrev wS:List D->Out (D×List D):=vE XG [.val,.io,.val] (Vi)
abbrev yg P w K mg base cv:=DefOk P w K mg base cv 4 "_law_pick" ["_law_script", "_law_town", "_law_some"] [.val,.io,.val] .sh (wS)
theorem GS (Z:Zt K mg cv ca) (T:jO K mg "_law_pick" Qu ["_law_script", "_law_town", "_law_some"]) (ok_Ldraw:wk P w K mg base cv):yg P w K mg base cv:=
 qU (k:=3) (own':=[1]) (fb:=Vi) T GR fun cdv f A outer s H E hr=>(qp (qu (ka rfl hr.units (vr 2) (qt ok_Ldraw hr (by decide) qQ rfl (qc (vr 0) (qX (i:=1) rfl (aI rfl) (by decide) (qc (qE (jM rfl) rfl Z.z_len js (vr 2)) ql)))) (fun _ _=>rfl))))
abbrev Uu:Stmt:=top 43
abbrev qci:List Str:=["_law_word_here", "_law_place", "_law_spots"]
theorem sc_Lat:FnScope qci ["_law_word_here", "_law_place"] (qd Uu):=⟨rfl,rfl,rfl,by decide +kernel,rfl,by decide +kernel,by decide +kernel⟩
noncomputable def qd0:Sl->Out (Fl×Sl):=(jm (wm 2 (jB [] 1 [1,0] (vW (d1 kG (qg 0))) (gNm 0) (dOr (qR (d2 eqD (qg 0) (qg 1))) (qR (d2 eqD (qg 0) (d2 vD (qg 1) (d1 kG (qg 2)))))) (qg 0)))
  (jm (sIf (qR (d2 neD (qg 2) (xM qF))) (km (d2 ixD (qg 0) (d2 ixD (qg 2) (dC (.int 0))))) jF)
  (km (dIf (qR (d2 geD (qg 1) (dC (.int 0)))) (d2 ixD (qg 0) (d1 qdv (dC (.int 1)))) (d2 ixD (qg 0) (dC (.int 0)))))))
noncomputable abbrev XH:List D->Out (D×List D):=vE qci [.val,.val] (qd0)
abbrev qaX P w K mg base cv:=DefOk P w K mg base cv 1 "_law_at" ["_law_word_here", "_law_place"] [.val,.val] .sh (XH)
theorem qd1 (Z:Zt K mg cv ca) (T:jO K mg "_law_at" Uu ["_law_word_here", "_law_place"]):qaX P w K mg base cv:=
 qU (k:=0) (own':=[]) (fb:=qd0) T sc_Lat fun cdv f A outer s H E hr=>(qo (Wb (N:=["_law_at_here", "_law_place", "_law_word_here"]) (nt:=1) (cap:=[1,0]) sc_Lat.nd (i:=2) rfl (aI rfl) rfl (wD (names:=(qd Uu).names) rfl (by decide +kernel)) (kr (names:=(qd Uu).names) (N:=qci) rfl rfl (by decide +kernel)) (ua rfl Z.z_range (qE (jM rfl) rfl Z.z_len js (vr 0))) (fun fp L s1 H1=>(qy (i:=0) (show bH (["_law_at_here", "_law_place", "_law_word_here"]:List Str) from by decide +kernel) rfl (aI rfl))) (fun fp L s1 H1=>(Ky (PW.pt (uq (qP (yl rfl hr.units) (vr 0) (vr 1)) (vC (qP (yl rfl hr.units) (vr 0) (jp (ko rfl) (vr 1) (qE (jM rfl) rfl Z.z_len js (vr 2))))))))) (fun fp L s1 H1=>(vr 0)))
  (VX [2] (qo (jq (qP (xL rfl hr.units) (vr 2) (vn ql)) (qp (qu (ka rfl hr.units (vr 0) (ka rfl hr.units (vr 2) qA (fun _ _=>rfl)) (fun _ _=>rfl)))) qS)
  (qp (qu (ZY (qP qbB (vr 1) qA) (ka rfl hr.units (vr 0) (qbx YD qA) (fun _ _=>rfl)) (ka rfl hr.units (vr 0) qA (fun _ _=>rfl))))))))
abbrev yz:Stmt:=top 44
abbrev Qv:List Str:=["_law_words_here", "_law_look_here"]
theorem GT:FnScope Qv ["_law_words_here", "_law_look_here"] (qd yz):=⟨rfl,rfl,rfl,by decide +kernel,rfl,by decide +kernel,by decide +kernel⟩
noncomputable def Vj:Sl->Out (Fl×Sl):=(km (jB [] 1 [1] (wt (qg 0)) (gNm 0) ftT (yk (qe (qC [.vl,.vl] XH (qe (qg 0) (qe (d2 ixD (qg 1) (dC (.int 0))) qF))) (qe (qC [.vl,.vl] XH (qe (qg 0) (qe (d2 ixD (qg 1) (dC (.int 1))) qF))) qF)))))
noncomputable abbrev zy:List D->Out (D×List D):=vE Qv [.val,.val] (Vj)
abbrev Qw P w K mg base cv:=DefOk P w K mg base cv 2 "_law_seen" ["_law_words_here", "_law_look_here"] [.val,.val] .sh (zy)
theorem GU (Z:Zt K mg cv ca) (T:jO K mg "_law_seen" yz ["_law_words_here", "_law_look_here"]) (ok_Lat:qaX P w K mg base cv):Qw P w K mg base cv:=
 qU (k:=1) (own':=[]) (fb:=Vj) T GT fun cdv f A outer s H E hr=>(qp (qu (jG (N:=["_law_word_here", "_law_look_here"]) (nt:=1) (cap:=[1]) rfl (wD (names:=(qd yz).names) rfl (by decide +kernel)) (kr (names:=(qd yz).names) (N:=Qv) rfl rfl (by decide +kernel)) (jr rfl (vr 0)) (fun fp L s1 H1=>(qy (i:=0) (show bH (["_law_word_here", "_law_look_here"]:List Str) from by decide +kernel) rfl (aI rfl))) (fun fp L s1 H1=>jn) (fun fp L s1 H1=>(kT (qc (qt ok_Lat hr (by decide) xf rfl (qc (vr 0) (qc (ka rfl hr.units (vr 1) qA (fun _ _=>rfl)) ql))) (qc (qt ok_Lat hr (by decide) xf rfl (qc (vr 0) (qc (ka rfl hr.units (vr 1) qA (fun _ _=>rfl)) ql))) ql)))))))
abbrev Uv:Stmt:=top 46
abbrev GV:List Str:=["_law_words_here", "_law_look_here", "_law_room", "_law_book"]
theorem qd2:FnScope GV ["_law_words_here", "_law_look_here", "_law_room", "_law_book"] (qd Uv):=⟨rfl,rfl,rfl,by decide +kernel,rfl,by decide +kernel,by decide +kernel⟩
noncomputable def qcj:Sl->Out (Fl×Sl):=(km (d1 uX (jB [] 2 [2,3] (wt (qC [.vl,.vl] zy (qe (qg 0) (qe (qg 1) qF)))) (uD 2 (ja (gNm 0) (ja (gNm 1) uC))) ftT (d2 Yj (d2 vD (d2 ixD (qg 3) (qg 0)) (d2 ixD (qg 3) (qg 1))) (qg 2)))))
noncomputable abbrev XI:List D->Out (D×List D):=vE GV [.val,.val,.val,.val] (qcj)
abbrev qaY P w K mg base cv:=DefOk P w K mg base cv 3 "_law_by" ["_law_words_here", "_law_look_here", "_law_room", "_law_book"] [.val,.val,.val,.val] .sh (XI)
theorem qd3 (Z:Zt K mg cv ca) (T:jO K mg "_law_by" Uv ["_law_words_here", "_law_look_here", "_law_room", "_law_book"]) (ok_Lseen:Qw P w K mg base cv):qaY P w K mg base cv:=
 qU (k:=2) (own':=[]) (fb:=qcj) T qd2 fun cdv f A outer s H E hr=>(qp (qu (kn (xq rfl) rfl Z.z_tuple vt (jG (N:=["_law_one", "_law_other", "_law_room", "_law_book"]) (nt:=2) (cap:=[2,3]) rfl (wD (names:=(qd Uv).names) rfl (by decide +kernel)) (kr (names:=(qd Uv).names) (N:=GV) rfl rfl (by decide +kernel)) (jr rfl (qt ok_Lseen hr (by decide) qQ rfl (qc (vr 0) (qc (vr 1) ql)))) (fun fp L s1 H1=>(ym rfl rfl (qN (qy (i:=0) (show bH (["_law_one", "_law_other", "_law_room", "_law_book"]:List Str) from by decide +kernel) rfl (aI rfl)) (qN (qy (i:=1) (show bH (["_law_one", "_law_other", "_law_room", "_law_book"]:List Str) from by decide +kernel) rfl (aI rfl)) ub)))) (fun fp L s1 H1=>jn) (fun fp L s1 H1=>(jp gf (jp (ko rfl) (ka rfl hr.units (vr 3) (vr 0) (fun _ _=>rfl)) (ka rfl hr.units (vr 3) (vr 1) (fun _ _=>rfl))) (vr 2)))))))
abbrev yA:Stmt:=top 40
abbrev Vk:List Str:=["_law_script", "_law_town", "_law_letters_here", "_law_most"]
theorem GW:FnScope Vk ["_law_script", "_law_town", "_law_letters_here", "_law_most"] (qd yA):=⟨rfl,rfl,rfl,by decide +kernel,rfl,by decide +kernel,by decide +kernel⟩
noncomputable def Vl:Sl->Out (Fl×Sl):=(km (d1 (Xk "") (jB [1] 1 [0,1,2] (vW (d2 vD (dC (.int 1)) (qC [.vl,.sl 1,.vl] kB (qe (qg 0) (kE (qe (qg 3) qF)))))) (gNm 0) ftT (qC [.vl,.sl 2,.vl] wS (qe (qg 1) (kE (qe (qg 3) qF)))))))
noncomputable abbrev Qx:List D->Out (D×List D):=vE Vk [.val,.io,.val,.val] (Vl)
abbrev WA P w K mg base cv:=DefOk P w K mg base cv 5 "_law_word" ["_law_script", "_law_town", "_law_letters_here", "_law_most"] [.val,.io,.val,.val] .sh (Qx)
theorem GX (Z:Zt K mg cv ca) (T:jO K mg "_law_word" yA ["_law_script", "_law_town", "_law_letters_here", "_law_most"]) (ok_Ldraw:wk P w K mg base cv) (ok_Lpick:yg P w K mg base cv):WA P w K mg base cv:=
 qU (k:=4) (own':=[1]) (fb:=Vl) T GW fun cdv f A outer s H E hr=>(qp (qu (qbZ rfl (jG (N:=["_law_k", "_law_script", "_law_town", "_law_letters_here"]) (nt:=1) (cap:=[0,1,2]) rfl (wD (names:=(qd yA).names) rfl (by decide +kernel)) (kr (names:=(qd yA).names) (N:=Vk) rfl rfl (by decide +kernel)) (ua rfl Z.z_range (jp (ko rfl) qA (qt ok_Ldraw hr (by decide) qQ rfl (qc (vr 0) (qX (i:=1) rfl (c9 (aI rfl)) (by decide) (qc (vr 3) ql)))))) (fun fp L s1 H1=>(qy (i:=0) (show bH (["_law_k", "_law_script", "_law_town", "_law_letters_here"]:List Str) from by decide +kernel) rfl (aI rfl))) (fun fp L s1 H1=>jn) (fun fp L s1 H1=>(qt ok_Lpick hr (by decide) xf rfl (qc (vr 1) (qX (i:=2) rfl (by first | exact c9 (c9 rfl) | exact c9 (aI rfl)) (by decide) (qc (vr 3) ql)))))))))
abbrev xz:Stmt:=top 41
abbrev WB:List Str:=["_law_script", "_law_town", "_law_most", "_law_letters_here", "_law_made_here", "_law_k", "_law_word_here"]
theorem sc_Lwords:FnScope WB ["_law_script", "_law_town", "_law_most"] (qd xz):=⟨rfl,rfl,rfl,by decide +kernel,rfl,by decide +kernel,by decide +kernel⟩
noncomputable def Qy:Sl->Out (Fl×Sl):=(jm (wm 3 (qC [.vl,.sl 1,.vl] wS (qe (qg 0) (kE (qe (xM fun ρ=>.ok ([(.lst [(.str "a"),(.str "b")]),(.lst [(.str "a"),(.str "b"),(.str "c")]),(.lst [(.str "a"),(.str "b"),(.str "c"),(.str "d")]),(.lst [(.str "k"),(.str "m"),(.str "z"),(.str "a"),(.str "e")])],ρ)) qF)))))
  (jm (wm 4 (xM qF))
  (jm (qbK (vW (d2 vD (dC (.int 1)) (qC [.vl,.sl 1,.vl] kB (qe (qg 0) (kE (qe (qg 2) qF)))))) (gNm 5)
  (jm (wm 6 (qC [.vl,.sl 1,.vl,.vl] Qx (qe (qg 0) (kE (qe (qg 3) (qe (dC (.int 6)) qF))))))
  (sIf (qR (d2 qaK (qg 6) (qg 4))) (wx (KD 4 We (qg 6))) jF)))
  (km (d1 uX (qg 4))))))
noncomputable abbrev Qz:List D->Out (D×List D):=vE WB [.val,.io,.val] (Qy)
abbrev JU P w K mg base cv:=DefOk P w K mg base cv 6 "_law_words" ["_law_script", "_law_town", "_law_most"] [.val,.io,.val] .sh (Qz)
theorem XJ (Z:Zt K mg cv ca) (T:jO K mg "_law_words" xz ["_law_script", "_law_town", "_law_most"]) (ok_Ldraw:wk P w K mg base cv) (ok_Lpick:yg P w K mg base cv) (ok_Lword:WA P w K mg base cv):JU P w K mg base cv:=
 qU (k:=5) (own':=[1]) (fb:=Qy) T sc_Lwords fun cdv f A outer s H E hr=>(qo (jb (i:=3) sc_Lwords.nd rfl (aI rfl) (qt ok_Lpick hr (by decide) qQ rfl (qc (vr 0) (qX (i:=1) rfl (aI rfl) (by decide) (qc (Xp 16 rfl) ql)))))
  (qo (uP (i:=4) sc_Lwords.nd rfl (aI rfl) (vn ql))
  (qo (gN cK rfl (ua rfl Z.z_range (jp (ko rfl) qA (qt ok_Ldraw hr (by decide) qQ rfl (qc (vr 0) (qX (i:=1) rfl (aI rfl) (by decide) (qc (vr 2) ql)))))) (qy (i:=5) sc_Lwords.nd rfl (aI rfl))
  (qo (jb (i:=6) sc_Lwords.nd rfl (aI rfl) (qt ok_Lword hr (by decide) qQ rfl (qc (vr 0) (qX (i:=1) rfl (aI rfl) (by decide) (qc (vr 3) (qc qA ql))))))
  (qp (jq (qP (YM rfl hr.units) (vr 6) (gK (i:=4) rfl (aI rfl) (by decide))) (qp (jW (uV (i:=4) rfl rfl (aI rfl) (by decide) (vr 6)))) qS))))
  (qp (qu (kn (xq rfl) rfl Z.z_tuple vt (gK (i:=4) rfl (aI rfl) (by decide))))))))
abbrev QA:Stmt:=top 42
abbrev XM:List Str:=["_law_script", "_law_town"]
theorem GY:FnScope XM ["_law_script", "_law_town"] (qd QA):=⟨rfl,rfl,rfl,by decide +kernel,rfl,by decide +kernel,by decide +kernel⟩
noncomputable def Vm:Sl->Out (Fl×Sl):=(km (yk (qe (d2 VQ (qC [.vl,.sl 1,.vl] kB (qe (qg 0) (kE (qe (dC (.int 6)) qF)))) (dC (.int 3))) (qe (d2 VQ (qC [.vl,.sl 1,.vl] kB (qe (qg 0) (kE (qe (dC (.int 6)) qF)))) (dC (.int 3))) qF))))
noncomputable abbrev Vn:List D->Out (D×List D):=vE XM [.val,.io] (Vm)
abbrev WC P w K mg base cv:=DefOk P w K mg base cv 4 "_law_look" ["_law_script", "_law_town"] [.val,.io] .sh (Vn)
theorem GZ (Z:Zt K mg cv ca) (T:jO K mg "_law_look" QA ["_law_script", "_law_town"]) (ok_Ldraw:wk P w K mg base cv):WC P w K mg base cv:=
 qU (k:=3) (own':=[1]) (fb:=Vm) T GY fun cdv f A outer s H E hr=>(qp (qu (kT (qc (jp xK (qt ok_Ldraw hr (by decide) qQ rfl (qc (vr 0) (qX (i:=1) rfl (aI rfl) (by decide) (qc qA ql)))) qA) (qc (jp xK (qt ok_Ldraw hr (by decide) qQ rfl (qc (vr 0) (qX (i:=1) rfl (aI rfl) (by decide) (qc qA ql)))) qA) ql)))))
abbrev uj:Stmt:=top 45
abbrev gA:List Str:=["_law_words_here", "_law_look_here", "_law_made_here", "_law_pair"]
theorem sc_Lletters:FnScope gA ["_law_words_here", "_law_look_here"] (qd uj):=⟨rfl,rfl,rfl,by decide +kernel,rfl,by decide +kernel,by decide +kernel⟩
noncomputable def yB:Sl->Out (Fl×Sl):=(jm (wm 2 (xM qF))
  (jm (qbK (wt (qC [.vl,.vl] zy (qe (qg 0) (qe (qg 1) qF)))) (gNm 3)
  (wx (KD 2 qez (d1 KF (qg 3)))))
  (km (d1 jX (qg 2)))))
noncomputable abbrev yC:List D->Out (D×List D):=vE gA [.val,.val] (yB)
abbrev zA P w K mg base cv:=DefOk P w K mg base cv 3 "_law_letters" ["_law_words_here", "_law_look_here"] [.val,.val] .sh (yC)
theorem Vo (Z:Zt K mg cv ca) (T:jO K mg "_law_letters" uj ["_law_words_here", "_law_look_here"]) (ok_Lseen:Qw P w K mg base cv):zA P w K mg base cv:=
 qU (k:=2) (own':=[]) (fb:=yB) T sc_Lletters fun cdv f A outer s H E hr=>(qo (uP (i:=2) sc_Lletters.nd rfl (aI rfl) (vn ql))
  (qo (gN cK rfl (jr rfl (qt ok_Lseen hr (by decide) qQ rfl (qc (vr 0) (qc (vr 1) ql)))) (qy (i:=3) sc_Lletters.nd rfl (aI rfl))
  (qp (jW (YE (i:=2) rfl (aI rfl) (by decide) (kn (YF rfl) rfl Z.z_list XB (vr 3))))))
  (qp (qu (ud rfl rfl rfl Z.z_sorted ya rfl Z.z_set zi (gK (i:=2) rfl (aI rfl) (by decide)))))))
abbrev yD:Stmt:=top 48
abbrev Vp:List Str:=["_law_script", "_law_town", "_law_most", "_law_wide", "_law_room", "_law_look_here", "_law_names", "_law_more", "_law_letters_here"]
theorem sc_Lmade:FnScope Vp ["_law_script", "_law_town", "_law_most", "_law_wide"] (qd yD):=⟨rfl,rfl,rfl,by decide +kernel,rfl,by decide +kernel,by decide +kernel⟩
noncomputable def Vq:Sl->Out (Fl×Sl):=(jm (wm 4 (d2 vD (dC (.int 1)) (qC [.vl,.sl 1,.vl] kB (qe (qg 0) (kE (qe (qg 3) qF))))))
  (jm (wm 5 (qC [.vl,.sl 1] Vn (qe (qg 0) (kE qF))))
  (jm (wm 6 (qC [.vl,.sl 1,.vl] Qz (qe (qg 0) (kE (qe (qg 2) qF)))))
  (jm (wm 7 (qC [.vl,.sl 1,.vl] wS (qe (qg 0) (kE (qe (xM fun ρ=>.ok ([(.lst []),(.lst [(.str "q")]),(.lst [(.str "y"),(.str "x")])],ρ)) qF)))))
  (jm (wm 8 (d1 jX (d2 vD (qC [.vl,.vl] yC (qe (qg 6) (qe (qg 5) qF))) (qg 7))))
  (km (yk (qe (qg 6) (qe (qg 5) (qe (qg 4) (qe (d1 uX (jB [1] 1 [0,1,4] (wt (qg 8)) (gNm 0) ftT (yk (qe (qg 0) (qe (qC [.vl,.sl 2,.vl] kB (qe (qg 1) (kE (qe (qg 3) qF)))) qF))))) qF)))))))))))
noncomputable abbrev Vr:List D->Out (D×List D):=vE Vp [.val,.io,.val,.val] (Vq)
abbrev WD P w K mg base cv:=DefOk P w K mg base cv 7 "_law_made" ["_law_script", "_law_town", "_law_most", "_law_wide"] [.val,.io,.val,.val] .sh (Vr)
theorem qaa (Z:Zt K mg cv ca) (T:jO K mg "_law_made" yD ["_law_script", "_law_town", "_law_most", "_law_wide"]) (ok_Ldraw:wk P w K mg base cv) (ok_Lpick:yg P w K mg base cv) (ok_Lwords:JU P w K mg base cv) (ok_Llook:WC P w K mg base cv) (ok_Lletters:zA P w K mg base cv):WD P w K mg base cv:=
 qU (k:=6) (own':=[1]) (fb:=Vq) T sc_Lmade fun cdv f A outer s H E hr=>(qo (jb (i:=4) sc_Lmade.nd rfl (c9 rfl) (jp (ko rfl) qA (qt ok_Ldraw hr (by decide) qQ rfl (qc (vr 0) (qX (i:=1) rfl (c9 (aI rfl)) (by decide) (qc (vr 3) ql))))))
  (qo (jb (i:=5) sc_Lmade.nd rfl (aI rfl) (qt ok_Llook hr (by decide) qQ rfl (qc (vr 0) (qX (i:=1) rfl (c9 (aI rfl)) (by decide) ql))))
  (qo (jb (i:=6) sc_Lmade.nd rfl (aI rfl) (qt ok_Lwords hr (by decide) qQ rfl (qc (vr 0) (qX (i:=1) rfl (c9 (aI rfl)) (by decide) (qc (vr 2) ql)))))
  (qo (jb (i:=7) sc_Lmade.nd rfl (aI rfl) (qt ok_Lpick hr (by decide) qQ rfl (qc (vr 0) (qX (i:=1) rfl (c9 (aI rfl)) (by decide) (qc (Xp 12 rfl) ql)))))
  (qo (jb (i:=8) sc_Lmade.nd rfl (aI rfl) (ud rfl rfl rfl Z.z_sorted ya rfl Z.z_set zi (jp (ko rfl) (qt ok_Lletters hr (by decide) qQ rfl (qc (vr 6) (qc (vr 5) ql))) (vr 7))))
  (qp (qu (kT (qc (vr 6) (qc (vr 5) (qc (vr 4) (qc (kn (xq rfl) rfl Z.z_tuple vt (jG (N:=["_law_letter", "_law_script", "_law_town", "_law_room"]) (nt:=1) (cap:=[0,1,4]) rfl (wD (names:=(qd yD).names) rfl (by decide +kernel)) (kr (names:=(qd yD).names) (N:=Vp) rfl rfl (by decide +kernel)) (jr rfl (vr 8)) (fun fp L s1 H1=>(qy (i:=0) (show bH (["_law_letter", "_law_script", "_law_town", "_law_room"]:List Str) from by decide +kernel) rfl (aI rfl))) (fun fp L s1 H1=>jn) (fun fp L s1 H1=>(kT (qc (vr 0) (qc (qt ok_Ldraw hr (by decide) xf rfl (qc (vr 1) (qX (i:=2) rfl (by first | exact c9 (c9 rfl) | exact c9 (aI rfl)) (by decide) (qc (vr 3) ql)))) ql)))))) ql))))))))))))
abbrev QB:Stmt:=top 49
abbrev XN:List Str:=["_law_script", "_law_town", "_law_kept", "_law_word_here", "_law_names", "_law_look_here", "_law_room", "_law_line", "_law_numbers"]
theorem sc_Lgood:FnScope XN ["_law_script", "_law_town"] (qd QB):=⟨rfl,rfl,rfl,by decide +kernel,rfl,by decide +kernel,by decide +kernel⟩
noncomputable def Vs:Sl->Out (Fl×Sl):=(jm (qex (qC [.vl,.sl 1,.vl,.vl] Vr (qe (qg 0) (kE (qe (dC (.int 6)) (qe (dC (.int 20)) qF))))) (uD 4 (ja (gNm 4) (ja (gNm 5) (ja (gNm 6) (ja (gNm 7) uC))))))
  (jm (wm 2 (yk qF))
  (jm (qbK (wt (qg 4)) (gNm 3)
  (jm (wm 8 (qC [.vl,.vl,.vl,.vl] XI (qe (d2 vD (qg 2) (yk (qe (qg 3) qF))) (qe (qg 5) (qe (qg 6) (qe (d1 zR (qg 7)) qF))))))
  (sIf (qR (d2 eqD (d1 kK (qg 8)) (d1 kG (qg 8)))) (wm 2 (d2 vD (qg 2) (yk (qe (qg 3) qF)))) jF)))
  (km (yk (qe (qg 2) (qe (qg 5) (qe (qg 6) (qe (qg 7) qF)))))))))
noncomputable abbrev Vt:List D->Out (D×List D):=vE XN [.val,.io] (Vs)
abbrev WE P w K mg base cv:=DefOk P w K mg base cv 8 "_law_good" ["_law_script", "_law_town"] [.val,.io] .sh (Vt)
theorem qab (Z:Zt K mg cv ca) (T:jO K mg "_law_good" QB ["_law_script", "_law_town"]) (ok_Lby:qaY P w K mg base cv) (ok_Lmade:WD P w K mg base cv):WE P w K mg base cv:=
 qU (k:=7) (own':=[1]) (fb:=Vs) T sc_Lgood fun cdv f A outer s H E hr=>(qo (Yu (qt ok_Lmade hr (by decide) qQ rfl (qc (vr 0) (qX (i:=1) rfl (aI rfl) (by decide) (qc qA (qc qA ql))))) (ym rfl rfl (qN (qy (i:=4) sc_Lgood.nd rfl (aI rfl)) (qN (qy (i:=5) sc_Lgood.nd rfl (aI rfl)) (qN (qy (i:=6) sc_Lgood.nd rfl (aI rfl)) (qN (qy (i:=7) sc_Lgood.nd rfl (aI rfl)) ub))))))
  (qo (jb (i:=2) sc_Lgood.nd rfl (aI rfl) (kT ql))
  (qo (gN cK rfl (jr rfl (vr 4)) (qy (i:=3) sc_Lgood.nd rfl (aI rfl))
  (qo (jb (i:=8) sc_Lgood.nd rfl (aI rfl) (qt ok_Lby hr (by decide) qQ rfl (qc (jp (ko rfl) (vr 2) (kT (qc (vr 3) ql))) (qc (vr 5) (qc (vr 6) (qc (kn (YL rfl rfl) rfl Z.z_dict XA (vr 7)) ql))))))
  (qp (jq (qP (yl rfl hr.units) (gt rfl rfl rfl Z.z_len js rfl Z.z_set zi (vr 8)) (qE (jM rfl) rfl Z.z_len js (vr 8))) (qp (jb (i:=2) sc_Lgood.nd rfl (aI rfl) (jp (ko rfl) (vr 2) (kT (qc (vr 3) ql))))) qS))))
  (qp (qu (kT (qc (vr 2) (qc (vr 5) (qc (vr 6) (qc (vr 7) ql))))))))))
abbrev Vu:Stmt:=top 50
abbrev qck:List Str:=["_law_script", "_law_town", "_law_past", "_law_asked", "_law_k", "_law_names", "_law_look_here", "_law_room", "_law_line", "_law_book", "_law_other", "_law_word_here", "_law_there", "_law_here", "#a", "#b"]
theorem sc_law:FnScope qck ["_law_script"] (qd Vu):=⟨rfl,rfl,rfl,by decide +kernel,rfl,by decide +kernel,by decide +kernel⟩
noncomputable def XO (ca:Str->Addr):Sl->Out (Fl×Sl):=(jm (wm 1 (xM qF))
  (qex (qC [.vl,.sl 1] Vt (qe (qg 0) (kE qF))) (uD 4 (ja (gNm 5) (ja (gNm 6) (ja (gNm 7) (ja (gNm 8) uC)))))))
noncomputable def XQ:Sl->Out (List D×Sl):=(qe (qg 5) (qe (qg 6) (qe (qg 7) (qe (qg 8) qF))))
noncomputable def Vv:Sl->Out (List D×Sl):=(qe (YH (qg 5) none (some (dC (.int 1))) none) (qe (qg 6) (qe (qg 7) (qe (qg 8) qF))))
noncomputable def WF (ca:Str->Addr):Sl->Out (Fl×Sl):=(jm (wm 2 (xM qF))
  (jm (wm 3 (xM qF))
  (jm (qbK (vW (qC [.vl,.sl 1,.vl] kB (qe (qg 0) (kE (qe (dC (.int 12)) qF))))) (gNm 4)
  (jm (wm 11 (qC [.vl,.sl 1,.vl] wS (qe (qg 0) (kE (qe (d2 vD (d1 KF (qg 5)) (xM (qe (dC (.str "q")) (qe (dC (.str "a")) (qe (dC (.str "abcab")) (qe (dC (.str "z")) qF)))))) qF)))))
  (jm (wx (KD 2 We (yk (qe (dMR (ca "Book") "counts" "asked" 14 (qw ca) (qg 9)) (qe (dMR (ca "Book") "counts" "asked" 15 (qw ca) (qg 10)) qF)))))
  (jm (qdP 12 13 (qe (dMG (ca "Book") "ask" "asked" 14 (ki ca) (qg 9) (qe (qg 11) qF)) (qe (dMG (ca "Book") "ask" "asked" 15 (ki ca) (qg 10) (qe (qg 11) qF)) qF)))
  (jm (wx (KD 3 We (qg 11)))
  (jm (sIf (dOr (qR (d2 neD (d2 Uc (qg 12) (dC .non)) (d2 inA (qg 11) (qg 5)))) (qR (d2 neD (d2 Uc (qg 13) (dC .non)) (d2 eqD (qg 11) (d2 ixD (qg 5) (dC (.int 0))))))) (km (dC (.bl false))) jF)
  (sIf (dOr (qR (d2 neD (d1 qce (dMR (ca "Book") "counts" "asked" 14 (qw ca) (qg 9))) (d2 vD (qg 4) (dC (.int 1))))) (qR (d2 neD (d1 qce (dMR (ca "Book") "counts" "asked" 15 (qw ca) (qg 10))) (d2 vD (qg 4) (dC (.int 1)))))) (km (dC (.bl false))) jF)))))))
  (jm (kW (qR (d2O 2 neD (xM qF)))
  (jm (sIf (dOr (qR (d2 neD (dMG (ca "Book") "undo" "asked" 14 (jI ca) (qg 9) qF) (d2O 3 ixD (d1 qdv (dC (.int 1)))))) (qR (d2 neD (dMG (ca "Book") "undo" "asked" 15 (jI ca) (qg 10) qF) (JK 3)))) (km (dC (.bl false))) jF)
  (sIf (qR (d2 neD (yk (qe (dMR (ca "Book") "counts" "asked" 14 (qw ca) (qg 9)) (qe (dMR (ca "Book") "counts" "asked" 15 (qw ca) (qg 10)) qF))) (JK 2))) (km (dC (.bl false))) jF)) 20)
  (km (Ja (d2 eqD (dMR (ca "Book") "counts" "asked" 14 (qw ca) (qg 9)) (dMR (ca "Book") "counts" "asked" 15 (qw ca) (qg 10))) (d2O 3 eqD (xM qF))))))))
abbrev spL (K:Frag) (ca:Str->Addr):Sp:=qdV K qck (ca "Book") "asked" 9 10 14 15 (ju ca) (XO ca) XQ Vv (WF ca)
theorem qd4 {f:Addr} {fd:FuncData} (Z:Zt K mg cv ca) (F:Fun K "law" "law" Vu f fd) (ok_Book_counts:uu ca P w K mg base cv) (ok_Book_ask:zw ca P w K mg base cv) (ok_Book_undo:yR ca P w K mg base cv) (ok_Book___init__:wp ca P w K mg base cv) (ok_Ldraw:wk P w K mg base cv) (ok_Lpick:yg P w K mg base cv) (ok_Lgood:WE P w K mg base cv):FnOk P w K mg base (CXk P w) 9 f fd ["_law_script"] (spL K ca):=
 qdW (k:=8) (cv:=cv) (own2:=[]) F sc_law rfl fun cdv A outer s H E hr=>(vN (uP (i:=1) sc_law.nd rfl (aI rfl) (vn ql))
  (GG (Yu (qt ok_Lgood hr (by decide) qQ rfl (qc (vr 0) (qX (i:=1) rfl (aI rfl) (by decide) ql))) (ym rfl rfl (qN (qy (i:=5) sc_law.nd rfl (aI rfl)) (qN (qy (i:=6) sc_law.nd rfl (aI rfl)) (qN (qy (i:=7) sc_law.nd rfl (aI rfl)) (qN (qy (i:=8) sc_law.nd rfl (aI rfl)) ub))))))
  (wU (qcg (i:=9) (i2:=10) (g:=14) (g2:=15) (qaU ok_Book___init__ hr (by decide) rfl Z.m_Book (qc (vr 5) (qc (vr 6) (qc (vr 7) (qc (vr 8) ql))))) (qaU ok_Book___init__ hr (by decide) rfl Z.m_Book (qc (Gn rfl (vr 5) Wh (Gm qA) Wh) (qc (vr 6) (qc (vr 7) (qc (vr 8) ql))))) rfl sc_law.nd rfl rfl rfl rfl (fun y hy hv=>by cases hy; exact absurd hv (show ¬Vis (qd Vu) "#a" from by unfold Vis; decide +kernel)) (fun y hy hv=>by cases hy; exact absurd hv (show ¬Vis (qd Vu) "#b" from by unfold Vis; decide +kernel)))
  (qo (uP (i:=2) sc_law.nd rfl (aI rfl) (vn ql))
  (qo (uP (i:=3) sc_law.nd rfl (aI rfl) (vn ql))
  (qo (gN cK rfl (ua rfl Z.z_range (qt ok_Ldraw hr (by decide) qQ rfl (qc (vr 0) (qX (i:=1) rfl (aI rfl) (by decide) (qc qA ql))))) (qy (i:=4) sc_law.nd rfl (aI rfl))
  (qo (jb (i:=11) sc_law.nd rfl (aI rfl) (qt ok_Lpick hr (by decide) qQ rfl (qc (vr 0) (qX (i:=1) rfl (aI rfl) (by decide) (qc (jp (ko rfl) (kn (YF rfl) rfl Z.z_list XB (vr 5)) (vn (qc kS (qc kS (qc kS (qc kS ql)))))) ql)))))
  (qo (jW (uV (i:=2) rfl rfl (aI rfl) (by decide) (kT (qc (vp (fld := "asked") (g:=14) Z.b_cls ok_Book_counts hr (by decide) qQ (by decide) (vr 9)) (qc (vp (fld := "asked") (g:=15) Z.b_cls ok_Book_counts hr (by decide) qQ (by decide) (vr 10)) ql)))))
  (qo (qb6 (i:=12) (j:=13) rfl sc_law.nd rfl rfl rfl rfl (qc (JJ (fld := "asked") (g:=14) Z.b_cls ok_Book_ask hr (by decide) qQ (by decide) (vr 9) (qc (vr 11) ql)) (qc (JJ (fld := "asked") (g:=15) Z.b_cls ok_Book_ask hr (by decide) qQ (by decide) (vr 10) (qc (vr 11) ql)) ql)))
  (qo (jW (uV (i:=3) rfl rfl (aI rfl) (by decide) (vr 11)))
  (qo (jq (PW.pt (uq (qP (xL rfl hr.units) (uN Yq (vr 12) xJ) (uN (qaL rfl hr.units) (vr 11) (vr 5))) (vC (qP (xL rfl hr.units) (uN Yq (vr 13) xJ) (uN (yl rfl hr.units) (vr 11) (ka rfl hr.units (vr 5) qA (fun _ _=>rfl))))))) (qp (qu xI)) qS)
  (qp (jq (PW.pt (uq (qP (xL rfl hr.units) (qE (qaS rfl rfl) rfl Z.z_sum qaW (vp (fld := "asked") (g:=14) Z.b_cls ok_Book_counts hr (by decide) qQ (by decide) (vr 9))) (jp (ko rfl) (vr 4) qA)) (vC (qP (xL rfl hr.units) (qE (qaS rfl rfl) rfl Z.z_sum qaW (vp (fld := "asked") (g:=15) Z.b_cls ok_Book_counts hr (by decide) qQ (by decide) (vr 10))) (jp (ko rfl) (vr 4) qA))))) (qp (qu xI)) qS))))))))
  (qo (Yv 20 cK (GM (i:=2) rfl (aI rfl) (by decide) (xL rfl hr.units) (vn ql))
  (qo (jq (PW.pt (uq (qP (xL rfl hr.units) (JI (fld := "asked") (g:=14) Z.b_cls ok_Book_undo hr (by decide) qQ (by decide) (vr 9)) (qdU (i:=3) rfl hr.units rfl (aI rfl) (by decide) (qbx YD qA) (fun _ _=>rfl))) (vC (qP (xL rfl hr.units) (JI (fld := "asked") (g:=15) Z.b_cls ok_Book_undo hr (by decide) qQ (by decide) (vr 10)) (Xz (i:=3) rfl (aI rfl) (by decide)))))) (qp (qu xI)) qS)
  (qp (jq (qP (xL rfl hr.units) (kT (qc (vp (fld := "asked") (g:=14) Z.b_cls ok_Book_counts hr (by decide) qQ (by decide) (vr 9)) (qc (vp (fld := "asked") (g:=15) Z.b_cls ok_Book_counts hr (by decide) qQ (by decide) (vr 10)) ql))) (Xz (i:=2) rfl (aI rfl) (by decide))) (qp (qu xI)) qS))))
  (qp (qu (Jb (uN (yl rfl hr.units) (vp (fld := "asked") (g:=14) Z.b_cls ok_Book_counts hr (by decide) qQ (by decide) (vr 9)) (vp (fld := "asked") (g:=15) Z.b_cls ok_Book_counts hr (by decide) qQ (by decide) (vr 10))) (VU (qcf (i:=3) rfl (aI rfl) (by decide) (yl rfl hr.units) (vn ql)))))))))))))
end
end Kx
namespace Kx
open PySem PySem.Spec L2 L2.D2
variable {α:Type}
theorem uA (xs:List α) (k:Nat):atI xs (k:Int)=xs[k]?:=by
 unfold atI ixN
 rw [if_pos (by omega)]
 by_cases h:k < xs.length
 ·rw [if_pos (by omega)]
  simp
 ·rw [if_neg (by omega),cF (by omega)]
  rfl
theorem qd5 {xs:List α} {i:Int} (h0:0<=i) (h1:i < xs.length):∃ d,atI xs i=some d/\d∈xs:=by
 obtain ⟨k,rfl⟩:=Int.eq_ofNat_of_zero_le h0
 have hk:k < xs.length:=by omega
 exact ⟨xs[k],by rw [uA,aJ hk],cA hk⟩
theorem big:2000<=sizeLine:=by rw [sizeLine_eq]; decide
abbrev scr (ns:List Int):D:=.lst (ns.map .int)
theorem qcl (ns:List Int) (k:Nat):∃ i,yy [scr ns,.int k]=.ok (.int i,[.non,.non]):=by
 by_cases h:k < ns.length
 ·refine ⟨ns[k],?_⟩
  refine runD_ap.trans ?_
  simp [vR,qv,kG,ltD,ixD,qB,h,uA]
 ·by_cases h0:ns=[]
  ·subst h0
   have hk:¬((k:Int) < 0):=by omega
   exact ⟨0,by refine runD_ap.trans ?_; simp [vR,qv,kG,ltD,ixD,qB,eqD,eqN,wq,hk]⟩
  ·have hp:0 < ns.length:=eN.mpr h0
   have hm:k % ns.length < ns.length:=Nat.mod_lt _ hp
   have e:atI (ns.map D.int) ((k:Int) % (ns.length:Int))=some (.int ns[k % ns.length]):=by
    rw [show ((k:Int) % (ns.length:Int))=((k % ns.length:Nat):Int) by simp,uA,aY,aJ hm]
    rfl
   refine ⟨ns[k % ns.length] * 31+k,?_⟩
   refine runD_ap.trans ?_
   simp [vR,qv,kG,ltD,ixD,qB,eqD,eqN,h,h0,Yj,qcE,vD,gL,hp,e,CMul]
variable {many:Int}
theorem qac (ns:List Int) (k:Nat) (hm:0 < many):∃ r,0<=r/\r < many/\Qs [scr ns,.int k,.int many]=.ok (.int r,[.non,.non,.non]):=by
 obtain ⟨c,hc⟩:=qcl ns k
 have h1:=eJ (c * 1103515245+7919 * k+12345) (show (2147483647:Int)≠0 by decide)
 have h2:=dR (c * 1103515245+7919 * k+12345) (show (0:Int) < 2147483647 by decide)
 generalize hd:(c * 1103515245+7919 * (k:Int)+12345) % 2147483647=d at h1 h2
 have c1:L2.D2.qcD d 5:=⟨⟨by omega,by omega⟩,by omega,by omega⟩
 refine ⟨d ^ 5 % 2147483647 % 999983 % many,eJ _ (by omega),dR _ hm,?_⟩
 refine runD_ap.trans ?_
 simp [Qr,qv,qB,qH,jT,hc,qcE,Yj,vD,qfo,gL,hm,hd,c1,show ∀ j,CMul 7919 j from fun j=>.inl ⟨by omega,by omega⟩,show ∀ i,CMul i 1103515245 from fun i=>.inr ⟨by omega,by omega⟩]
theorem wT (ns:List Int) (town:List D) (hm:0 < many) (ht:town.length < 1000):∃ r,0<=r/\r < many/\kB [scr ns,.lst town,.int many]=.ok (.int r,[.non,.lst (town++[.int 0]),.non]):=by
 obtain ⟨r,h0,h1,h⟩:=qac ns (town.length+1) hm
 have hl:town.length < sizeLine:=aO (d9 ht (by decide)) big
 refine ⟨r,h0,h1,?_⟩
 simp at h
 refine runD_ap.trans ?_
 simp [Vh,qv,qB,qH,jT,xQ,We,kG,hl,h]
theorem QC (ns:List Int) (town xs:List D) (hx:xs≠[]) (ht:town.length < 1000):∃ d,d∈xs/\wS [scr ns,.lst town,.lst xs]=.ok (d,[.non,.lst (town++[.int 0]),.non]):=by
 have hp:0 < xs.length:=eN.mpr hx
 obtain ⟨r,h0,h1,h⟩:=wT ns town (many:=(xs.length:Int)) (by omega) ht
 obtain ⟨d,e,hd⟩:=qd5 (xs:=xs) h0 h1
 refine ⟨d,hd,?_⟩
 refine runD_ap.trans ?_
 simp [Vi,qv,qB,qH,jT,kG,h,ixD,e]
def az (c:Nat):Prop:=97<=c/\c<=122
def Kj (w:Str):Prop:=1<=w.length/\w.length<=6/\∀ c∈w.cps.toList,az c
theorem zB (x:Str):x.length=x.cps.size:=rfl
theorem XR (x y:Str):(x++y).cps=x.cps++y.cps:=rfl
def qeE (ls:List Str):Prop:=ls≠[]/\∀ x∈ls,∃ c,az c/\x=⟨#[c]⟩
theorem XS:∀ cs:List Nat,fh (ao "") (cs.map fun c=>(⟨#[c]⟩:Str))=⟨cs.toArray⟩:=by
 intro cs
 have e:∀ cs:List Nat,Str.join (ao "") (cs.map fun c=>(⟨#[c]⟩:Str))=⟨cs.toArray⟩:=by
  intro cs
  induction cs with
  | nil=>rfl
  | cons c cs ih=>
   cases cs with
   | nil=>rfl
   | cons d ds=>
    show (⟨#[c]⟩:Str)++ao ""++Str.join (ao "") ((d::ds).map fun c=>(⟨#[c]⟩:Str))=_
    rw [ih]
    have:((⟨#[c]⟩:Str)++ao ""++(⟨(d::ds).toArray⟩:Str)).cps=(c::d::ds).toArray:=by
     rw [XR,XR]
     have:(ao "").cps=#[]:=by decide +kernel
     rw [this]
     simp
    generalize h:(⟨#[c]⟩:Str)++ao ""++(⟨(d::ds).toArray⟩:Str)=x at this
    obtain ⟨y⟩:=x
    simp only at this
    rw [this]
 unfold fh
 rw [StrLaws.glued_eq_join]
 exact e cs
theorem WG:∀ cs:List Nat,((cs.map fun c=>(⟨#[c]⟩:Str)).map (·.length)).sum=cs.length
 | []=>rfl
 | c::cs=>by
  have ih:=WG cs
  rw [aA,aA,List.sum_cons,ih,ae]
  show 1 + _=_
  omega
theorem vd:∀ ws:List Str,zd (ws.map D.str)=some ws
 | []=>rfl
 | w::ws=>by simp [zd,vd ws]
variable {ls:List Str}
theorem JV (ns:List Int) (hl:qeE ls):∀ (ds:List D) (town:List D) (k:Option D),town.length+ds.length < 1000 ->
  ∃ (cs:List Nat) (town':List D) (k':Option D),town'.length=town.length+ds.length/\cs.length=ds.length/\(∀ c∈cs,az c) /\
   jY (gNm 0) ftT (qC [.vl,.sl 2,.vl] wS (qe (qg 1) (kE (qe (qg 3) qF)))) ds [k,some (scr ns),some (.lst town),some (.lst (ls.map D.str))]
    = .ok ((cs.map fun c=>(⟨#[c]⟩:Str)).map D.str,[k',some (scr ns),some (.lst town'),some (.lst (ls.map D.str))])
 | [],town,k,_=>⟨[],town,k,by simp,rfl,by simp,rfl⟩
 | d::ds,town,k,ht=>by
  rw [ae] at ht
  obtain ⟨e,he,hp⟩:=QC ns town (ls.map D.str) (by simpa using hl.1) (by omega)
  obtain ⟨x,hx,rfl⟩:=aH.mp he
  obtain ⟨c,hc,rfl⟩:=hl.2 x hx
  obtain ⟨cs,town',k',a1,a2,a3,a4⟩:=JV ns hl ds (town++[.int 0]) (some d) (by rw [am]; simp; omega)
  refine ⟨c::cs,town',k',?_,by simp [a2],?_,?_⟩
  ·rw [a1,am,ae]
   simp
   omega
  ·intro y hy
   rcases ac.mp hy with rfl | hy
   ·exact hc
   ·exact a3 y hy
  ·simp [jY,gQ,qH,jT,hp,a4]
theorem qcm (ns:List Int) (town:List D) (hl:qeE ls) (ht:town.length < 900):∃ w town',Kj w/\town'.length<=town.length+8/\Qx [scr ns,.lst town,.lst (ls.map D.str),.int 6]=.ok (.str w,[.non,.lst town',.non,.non]):=by
 obtain ⟨r,r0,r1,hr⟩:=wT ns town (many:=6) (by omega) (by omega)
 have hlen:(Ji 0 (1+r).toNat).length=(1+r).toNat:=by simp [Ji]
 obtain ⟨cs,town',k',a1,a2,a3,a4⟩:=JV ns hl (Ji 0 (1+r).toNat) (town++[.int 0]) none (by rw [hlen,am]; simp; omega)
 rw [hlen] at a1 a2
 rw [am] at a1
 simp at a1
 refine ⟨⟨cs.toArray⟩,town',⟨?_,?_,?_⟩,by omega,?_⟩
 ·show 1<=cs.toArray.size
  simp; omega
 ·show cs.toArray.size<=6
  simp; omega
 ·simpa using a3
 ·refine runD_ap.trans ?_
  have c1:-(2 ^ 62:Int)<=1+r/\1+r < 2 ^ 62:=by omega
  have hb:=big
  have hz:(Ji 0 (1+r).toNat).length<=sizeLine:=by rw [hlen]; omega
  have e0:fE (ao "")=0:=by decide +kernel
  have hs:=WG cs
  have hj:Xk (ao "") (.lst ((cs.map fun c=>(⟨#[c]⟩:Str)).map D.str))=.ok (.str ⟨cs.toArray⟩):=by
   unfold Xk
   simp only [vd,XS,hs]
   rw [if_pos ⟨by simp [e0]; omega,by show cs.toArray.size<=_; simp; omega⟩]
  simp only [Vl,qv,vG,kJ,jB]
  simp [-fm,qH,jT,hr,vW,vD,-Int.reducePow,c1,hz,kH,a4,jA,hj,qB]
theorem yh (w:Str):∀ ws:List Str,zL 7 (.str w) (ws.map D.str)=some (decide (w∈ws))
 | []=>by simp [zL]
 | a::ws=>by
  have ih:=yh w ws
  simp only [aA,zL,ih]
  simp [eqN,eqS]
  by_cases h:a=w
  ·simp [h]
  ·simp [h,aX h]
def jJ (ws:List Str):Prop:=1<=ws.length/\ws.length<=6/\ws.Nodup/\∀ w∈ws,Kj w
abbrev XT:Sl->Out (Fl×Sl):=(jm (wm 6 (qC [.vl,.sl 1,.vl,.vl] Qx (qe (qg 0) (kE (qe (qg 3) (qe (dC (.int 6)) qF))))))
  (sIf (qR (d2 qaK (qg 6) (qg 4))) (wx (KD 4 We (qg 6))) jF))
theorem yE (ns:List Int) (most:D) (hls:qeE ls):∀ (ds:List D) (town:List D) (ws:List Str) (k u:Option D),town.length+8 * ds.length < 900->ws.length+ds.length<=100->ws.Nodup->(∀ w∈ws,Kj w) ->
  ∃ (town':List D) (ws':List Str) (k' u':Option D),town'.length<=town.length+8 * ds.length/\ws'.length<=ws.length+ds.length/\ws.length<=ws'.length/\(ds≠[]->1<=ws'.length)/\ws'.Nodup/\(∀ w∈ws',Kj w) /\
   xo (gNm 5) XT ds [some (scr ns),some (.lst town),some most,some (.lst (ls.map D.str)),some (.lst (ws.map D.str)),k,u]=.ok (.nx,[some (scr ns),some (.lst town'),some most,some (.lst (ls.map D.str)),some (.lst (ws'.map D.str)),k',u'])
 | [],town,ws,k,u,_,_,hn,hw=>⟨town,ws,k,u,by simp,by simp,by simp,by simp,hn,hw,rfl⟩
 | d::ds,town,ws,k,u,ht,hl,hn,hw=>by
  rw [ae] at ht hl
  obtain ⟨w,t1,hW,ht1,hg⟩:=qcm ns town hls (by omega)
  have hb:=big
  have hz:ws.length < sizeLine:=by omega
  by_cases hm:w∈ws
  ·obtain ⟨town',ws',k',u',a1,a2,a3,a4,a5,a6,a7⟩:=yE ns most hls ds t1 ws (some d) (some (.str w)) (by omega) (by omega) hn hw
   refine ⟨town',ws',k',u',by rw [ae]; omega,by rw [ae]; omega,a3,fun _=>?_,a5,a6,?_⟩
   ·have:0 < ws.length:=List.length_pos_of_mem hm
    omega
   ·rw [<-a7]
    simp [xo,XT,qH,jT,hg,qaK,Ub,inD,yh,hm]
  ·obtain ⟨town',ws',k',u',a1,a2,a3,a4,a5,a6,a7⟩:=yE ns most hls ds t1 (ws++[w]) (some d) (some (.str w)) (by omega) (by rw [am]; simp; omega) (eh.mpr ⟨hn,by simp,fun a ha b hb=>by
    rw [aC.mp hb]
    exact fun z=>hm (z ▸ ha)⟩) (fun x hx=>by
    rcases bc.mp hx with hx | hx
    ·exact hw x hx
    ·rw [aC.mp hx]
     exact hW)
   rw [am] at a2 a3
   simp at a2 a3
   refine ⟨town',ws',k',u',by rw [ae]; omega,by rw [ae]; omega,by omega,fun _=>by omega,a5,a6,?_⟩
   rw [<-a7]
   simp [xo,XT,qH,jT,hg,qaK,Ub,inD,yh,hm,xQ,We,hz]
noncomputable def LETS:List (List Str):=[["a", "b"],["a", "b", "c"],["a", "b", "c", "d"],["k", "m", "z", "a", "e"]]
theorem qcn:∀ ls∈LETS,qeE ls:=by
 have h1:∀ ls∈LETS,∀ x∈ls,x∈(["a", "b", "c", "d", "k", "m", "z", "e"]:List Str):=by decide +kernel
 have h2:∀ ls∈LETS,ls≠[]:=by decide +kernel
 intro ls h
 refine ⟨h2 ls h,fun x hx=>?_⟩
 have h3:=h1 ls h x hx
 simp only [ac,bo,or_false] at h3
 rcases h3 with rfl | rfl | rfl | rfl | rfl | rfl | rfl | rfl
 ·exact ⟨97,by unfold az; decide,by decide +kernel⟩
 ·exact ⟨98,by unfold az; decide,by decide +kernel⟩
 ·exact ⟨99,by unfold az; decide,by decide +kernel⟩
 ·exact ⟨100,by unfold az; decide,by decide +kernel⟩
 ·exact ⟨107,by unfold az; decide,by decide +kernel⟩
 ·exact ⟨109,by unfold az; decide,by decide +kernel⟩
 ·exact ⟨122,by unfold az; decide,by decide +kernel⟩
 ·exact ⟨101,by unfold az; decide,by decide +kernel⟩
theorem qad (ns:List Int) (town:List D) (ht:town.length < 700):∃ ws town',jJ ws/\town'.length<=town.length+50/\Qz [scr ns,.lst town,.int 6]=.ok (.tup (ws.map D.str),[.non,.lst town',.non]):=by
 obtain ⟨d,hd,hp⟩:=QC ns town (LETS.map fun l=>.lst (l.map D.str)) (by simp [LETS]) (by omega)
 obtain ⟨ls,hls,rfl⟩:=aH.mp hd
 have hl:=qcn ls hls
 obtain ⟨r,r0,r1,hr⟩:=wT ns (town++[.int 0]) (many:=6) (by omega) (by rw [am]; simp; omega)
 have hlen:(Ji 0 (1+r).toNat).length=(1+r).toNat:=by simp [Ji]
 obtain ⟨town',ws',k',u',a1,a2,a3,a4,a5,a6,a7⟩:=yE ns (.int 6) hl (Ji 0 (1+r).toNat) (town++[.int 0]++[.int 0]) [] none none (by rw [hlen,am,am]; simp; omega) (by rw [hlen]; simp; omega) bJ (by simp)
 have hne:Ji 0 (1+r).toNat≠[]:=fun z=>by
  rw [z] at hlen
  simp at hlen
  omega
 refine ⟨ws',town',⟨a4 hne,?_,a5,a6⟩,?_,?_⟩
 ·rw [hlen] at a2
  simp at a2
  omega
 ·rw [hlen,am,am] at a1
  simp at a1
  omega
 ·refine runD_ap.trans ?_
  have c1:-(2 ^ 62:Int)<=1+r/\1+r < 2 ^ 62:=by omega
  have hb:=big
  have hz:4<=sizeLine:=by omega
  simp only [dh,bp,bq,aT] at a7 hr
  simp only [LETS,aA,aT] at hp
  simp [Qy,qv,qB,qH,jT,hp,hr,vW,vD,-Int.reducePow,c1,hz,a7,uX]
def WQ (p q:Int):Prop:=(-3<=p/\p<=2)/\-3<=q/\q<=2
theorem qco (ns:List Int) (town:List D) (ht:town.length < 900):∃ p q town',WQ p q/\town'.length=town.length+2/\Vn [scr ns,.lst town]=.ok (.tup [.int p,.int q],[.non,.lst town']):=by
 obtain ⟨r,r0,r1,hr⟩:=wT ns town (many:=6) (by omega) (by omega)
 obtain ⟨u,u0,u1,hu⟩:=wT ns (town++[.int 0]) (many:=6) (by omega) (by rw [am]; simp; omega)
 have hb:=big
 have hz:2<=sizeLine:=by omega
 refine ⟨r - 3,u - 3,town++[.int 0,.int 0],⟨⟨by omega,by omega⟩,by omega,by omega⟩,by simp,?_⟩
 refine runD_ap.trans ?_
 simp only [dh,bp,bq] at hu
 simp [Vm,qv,qB,qH,jT,hr,hu,VQ,gL,hz]
noncomputable def yi (n:Nat) (p:Int):Nat:=(max 0 (min (if 0<=p then p else (n:Int)+p) ((n:Int) - 1))).toNat
noncomputable def zC (w:Str) (p:Int):Str:=⟨#[(w.cps.toList[yi w.length p]?).getD 0]⟩
variable {w:Str}
theorem yY (hw:Kj w) (p:Int):va [.str w,.int p]=.ok (.str (zC w p),[.non,.non]):=by
 have h1:=hw.1
 have hn:(w.cps.toList.length:Int)=w.length:=by simp [zB]
 have key:∀ q:Int,q=(if 0<=p then p else (w.length:Int)+p)->atI w.cps.toList (if 0 < (if (w.length:Int) - 1 < q then (w.length:Int) - 1 else q) then (if (w.length:Int) - 1 < q then (w.length:Int) - 1 else q) else 0)=some ((w.cps.toList[yi w.length p]?).getD 0):=by
  intro q hq
  have e:(if 0 < (if (w.length:Int) - 1 < q then (w.length:Int) - 1 else q) then (if (w.length:Int) - 1 < q then (w.length:Int) - 1 else q) else 0)=(yi w.length p:Int):=by
   unfold yi
   rw [<-hq]
   have:1<=(w.length:Int):=by omega
   generalize (w.length:Int)=n at *
   split <;> split <;> omega
  have hl:yi w.length p < w.cps.toList.length:=by
   have hn':w.cps.toList.length=w.length:=by simp [zB]
   rw [hn']
   unfold yi
   omega
  rw [e,uA,aJ hl]
  rfl
 refine runD_ap.trans ?_
 by_cases hp:0<=p
 ·have k:=key p (by rw [if_pos hp])
  simp [wj,qv,qB,geD,gL,hp,qeA,qeB,VQ,kG,ixD,k,zC]
 ·have k:=key (w.length+p) (by rw [if_neg hp])
  simp [wj,qv,qB,geD,gL,hp,qeA,qeB,VQ,vD,kG,ixD,k,zC]
theorem XU (h:Kj w):(∃ a,w=⟨#[a]⟩)\/(∃ a b,w=⟨#[a,b]⟩)\/(∃ a b c,w=⟨#[a,b,c]⟩)\/(∃ a b c d,w=⟨#[a,b,c,d]⟩)\/(∃ a b c d e,w=⟨#[a,b,c,d,e]⟩)\/∃ a b c d e f,w=⟨#[a,b,c,d,e,f]⟩:=by
 obtain ⟨⟨l⟩⟩:=w
 have h1:1<=l.length:=h.1
 have h2:l.length<=6:=h.2.1
 match l,h1,h2 with
 | [a],_,_=>exact .inl ⟨a,rfl⟩
 | [a,b],_,_=>exact .inr (.inl ⟨a,b,rfl⟩)
 | [a,b,c],_,_=>exact .inr (.inr (.inl ⟨a,b,c,rfl⟩))
 | [a,b,c,d],_,_=>exact .inr (.inr (.inr (.inl ⟨a,b,c,d,rfl⟩)))
 | [a,b,c,d,e],_,_=>exact .inr (.inr (.inr (.inr (.inl ⟨a,b,c,d,e,rfl⟩))))
 | [a,b,c,d,e,f],_,_=>exact .inr (.inr (.inr (.inr (.inr ⟨a,b,c,d,e,f,rfl⟩))))
variable {p:Int}
set_option maxHeartbeats 0 in
theorem JW (hw:Kj w) (h0:-3<=p) (h1:p<=2):XH [.str w,.int p]=.ok (.str (zC w p),[.non,.non]):=by
 have hp:p=-3\/p=-2\/p=-1\/p=0\/p=1\/p=2:=by omega
 rcases XU hw with ⟨a,rfl⟩ | ⟨a,b,rfl⟩ | ⟨a,b,c,rfl⟩ | ⟨a,b,c,d,rfl⟩ | ⟨a,b,c,d,e,rfl⟩ | ⟨a,b,c,d,e,f,rfl⟩ <;> rcases hp with rfl | rfl | rfl | rfl | rfl | rfl <;> kernel_rfl
variable {own:List Nat}
theorem yF (ρc:Sl):∀ (cap:List Nat) (n:Nat) (ρ:Sl),(∀ k∈cap,k∉own)->jA own ρc n cap ρ=ρ
 | [],n,ρ,_=>rfl
 | k::cap,n,ρ,h=>by
  unfold jA
  rw [if_neg (h k (aw ..))]
  exact yF ρc cap (n+1) ρ fun x hx=>h x (af _ hx)
variable {fe:Sl->Out (D×Sl)} {ft:Sl->Out (Bool×Sl)} {caps:Sl}
theorem qd6 {P:D->Bool} {F:D->D}:∀ (ds:List D) (x:Option D),(∀ d∈ds,ft (some d::caps)=.ok (P d,some d::caps))->(∀ d∈ds,P d=true->fe (some d::caps)=.ok (F d,some d::caps))->∃ x',jY (gNm 0) ft fe ds (x::caps)=.ok ((ds.filter P).map F,x'::caps)
 | [],x,_,_=>⟨x,rfl⟩
 | d::ds,x,h,h'=>by
  obtain ⟨x',e⟩:=qd6 ds (some d) (fun d' hd=>h d' (af _ hd)) fun d' hd=>h' d' (af _ hd)
  refine ⟨x',?_⟩
  have h1:=h d (aw ..)
  have h2:=h' d (aw ..)
  cases q:P d with
  | true=>simp [jY,gQ,h1,q,h2 q,e]
  | false=>simp [jY,gQ,h1,q,e]
variable {cap:List Nat} {fi:Sl->Out (List D×Sl)} {ρ ρ1:Sl} {ds:List D}
theorem qd7 {fe:Sl->Out (D×Sl)} {ft:Sl->Out (Bool×Sl)} (P:D->Bool) (F:D->D) (ho:∀ k∈cap,k∉own) (h:fi ρ=.ok (ds,ρ1)) (hl:ds.length<=sizeLine)
  (ht:∀ d∈ds,ft (some d::cap.map fun k=>(ρ1[k]?).getD none)=.ok (P d,some d::cap.map fun k=>(ρ1[k]?).getD none)) (he:∀ d∈ds,P d=true->fe (some d::cap.map fun k=>(ρ1[k]?).getD none)=.ok (F d,some d::cap.map fun k=>(ρ1[k]?).getD none)) :
  jB own 1 cap fi (gNm 0) ft fe ρ=.ok (.lst ((ds.filter P).map F),ρ1):=by
 obtain ⟨x',e⟩:=qd6 ds none ht he
 unfold jB
 rw [h]
 simp only [qG]
 rw [if_pos hl,show kH 1 cap ρ1=none::cap.map fun k=>(ρ1[k]?).getD none from rfl,e]
 simp only [qG,yF _ _ _ _ ho]
theorem qcp (F:D->D) (ho:∀ k∈cap,k∉own) (h:fi ρ=.ok (ds,ρ1)) (hl:ds.length<=sizeLine) (ht:∀ d∈ds,fe (some d::cap.map fun k=>(ρ1[k]?).getD none)=.ok (F d,some d::cap.map fun k=>(ρ1[k]?).getD none)) :
  jB own 1 cap fi (gNm 0) ftT fe ρ=.ok (.lst (ds.map F),ρ1):=by
 have e:=qd7 (ft:=ftT) (fun _=>true) F ho h hl (fun _ _=>rfl) fun d hd _=>ht d hd
 rw [eM.mpr fun _ _=>rfl] at e
 exact e
theorem uy (F:D->D) (h:fi ρ=.ok (ds,ρ1)) (hl:ds.length<=sizeLine) (ht:∀ d∈ds,fe (some d::cap.map fun k=>(ρ1[k]?).getD none)=.ok (F d,some d::cap.map fun k=>(ρ1[k]?).getD none)) :
  jB [] 1 cap fi (gNm 0) ftT fe ρ=.ok (.lst (ds.map F),ρ1):=qcp F (fun _ _=>by simp) h hl ht
theorem qaZ {P:D×D->Bool} {F:D×D->D}:∀ (ps:List (D×D)) (x y:Option D),(∀ p∈ps,ft (some p.1::some p.2::caps)=.ok (P p,some p.1::some p.2::caps))->(∀ p∈ps,P p=true->fe (some p.1::some p.2::caps)=.ok (F p,some p.1::some p.2::caps)) ->
  ∃ x' y',jY (uD 2 (ja (gNm 0) (ja (gNm 1) uC))) ft fe (ps.map fun p=>.tup [p.1,p.2]) (x::y::caps)=.ok ((ps.filter P).map F,x'::y'::caps)
 | [],x,y,_,_=>⟨x,y,rfl⟩
 | p::ps,x,y,h,h'=>by
  obtain ⟨x',y',e⟩:=qaZ ps (some p.1) (some p.2) (fun d' hd=>h d' (af _ hd)) fun d' hd=>h' d' (af _ hd)
  refine ⟨x',y',?_⟩
  have h1:=h p (aw ..)
  have h2:=h' p (aw ..)
  cases q:P p with
  | true=>simp [jY,gQ,uD,ja,uC,h1,q,h2 q,e]
  | false=>simp [jY,gQ,uD,ja,uC,h1,q,e]
theorem Vw {fe:Sl->Out (D×Sl)} {ft:Sl->Out (Bool×Sl)} {ps:List (D×D)} (P:D×D->Bool) (F:D×D->D) (ho:∀ k∈cap,k∉own) (h:fi ρ=.ok (ps.map fun p=>.tup [p.1,p.2],ρ1)) (hl:ps.length<=sizeLine)
  (ht:∀ p∈ps,ft (some p.1::some p.2::cap.map fun k=>(ρ1[k]?).getD none)=.ok (P p,some p.1::some p.2::cap.map fun k=>(ρ1[k]?).getD none))
  (he:∀ p∈ps,P p=true->fe (some p.1::some p.2::cap.map fun k=>(ρ1[k]?).getD none)=.ok (F p,some p.1::some p.2::cap.map fun k=>(ρ1[k]?).getD none)) :
  jB own 2 cap fi (uD 2 (ja (gNm 0) (ja (gNm 1) uC))) ft fe ρ=.ok (.lst ((ps.filter P).map F),ρ1):=by
 obtain ⟨x',y',e⟩:=qaZ ps none none ht he
 unfold jB
 rw [h]
 simp only [qG]
 rw [if_pos (by rw [aG]; exact hl),show kH 2 cap ρ1=none::none::cap.map fun k=>(ρ1[k]?).getD none from rfl,e]
 simp only [qG,yF _ _ _ _ ho]
noncomputable def qL (ws:List Str) (p q:Int):List (Str×Str):=ws.map fun w=>(zC w p,zC w q)
noncomputable def jK (l:List (Str×Str)):List D:=l.map fun x=>.tup [.str x.1,.str x.2]
theorem jy {n:Nat} (h:n<=2000):n<=sizeLine:=bW h big
abbrev Wd (ws:List Str):D:=.tup (ws.map D.str)
abbrev Ld (p q:Int):D:=.tup [.int p,.int q]
variable {ws:List Str} {q:Int}
theorem gB {G:List D->Out (D×List D)} (hw:jJ ws) (hG:∀ w∈ws,G [.str w,.int p]=.ok (.str (zC w p),[.non,.non])/\G [.str w,.int q]=.ok (.str (zC w q),[.non,.non])) :
  jB [] 1 [1] (wt (qg 0)) (gNm 0) ftT (yk (qe (qC [.vl,.vl] G (qe (qg 0) (qe (d2 ixD (qg 1) (dC (.int 0))) qF))) (qe (qC [.vl,.vl] G (qe (qg 0) (qe (d2 ixD (qg 1) (dC (.int 1))) qF))) qF))) [some (Wd ws),some (Ld p q)]
   = .ok (.lst (jK (qL ws p q)),[some (Wd ws),some (Ld p q)]):=by
 have e:=uy (cap:=[1]) (fi:=wt (qg 0)) (ρ:=[some (Wd ws),some (Ld p q)]) (ρ1:=[some (Wd ws),some (Ld p q)]) (ds:=ws.map D.str)
  (fe:=(yk (qe (qC [.vl,.vl] G (qe (qg 0) (qe (d2 ixD (qg 1) (dC (.int 0))) qF))) (qe (qC [.vl,.vl] G (qe (qg 0) (qe (d2 ixD (qg 1) (dC (.int 1))) qF))) qF))))
  (fun d=>match d with | .str w=>.tup [.str (zC w p),.str (zC w q)] | d=>d) (by simp [ku]) (by rw [aG]; exact jy (by have:=hw.2.1; omega)) (fun d hd=>by
   obtain ⟨w,hm,rfl⟩:=aH.mp hd
   obtain ⟨h1,h2⟩:=hG w hm
   have hz:2<=sizeLine:=jy (by omega)
   simp [qH,jT,ixD,atI,ixN,h1,h2,hz])
 rw [e]
 simp [jK,qL]
theorem zD (hw:jJ ws) (hl:WQ p q):zy [Wd ws,Ld p q]=.ok (.lst (jK (qL ws p q)),[.non,.non]):=by
 refine runD_ap.trans ?_
 have e:=gB (G:=XH) hw (p:=p) (q:=q) fun w hm=>⟨JW (hw.2.2.2 w hm) hl.1.1 hl.1.2,JW (hw.2.2.2 w hm) hl.2.1 hl.2.2⟩
 unfold Vj
 rw [vG,show qv Qv [Wd ws,Ld p q]=[some (Wd ws),some (Ld p q)] from rfl,e]
 rfl
def Pl:D->Prop
 | .raw _=>False
 | .xcp _=>False
 | .ins _ _=>False
 | .dct _=>False
 | .at_ _ _=>False
 | _=>True
@[simp] theorem kk1:kb "NoneType" "int"=some false:=by decide +kernel
@[simp] theorem kk2:kb "bool" "int"=some true:=by decide +kernel
@[simp] theorem kk3:kb "int" "int"=some true:=by decide +kernel
@[simp] theorem kk4:kb "str" "int"=some false:=by decide +kernel
@[simp] theorem kk5:kb "tuple" "int"=some false:=by decide +kernel
@[simp] theorem kk6:kb "list" "int"=some false:=by decide +kernel
@[simp] theorem kb1:kb "NoneType" "bool"=some false:=by decide +kernel
@[simp] theorem kb2:kb "bool" "bool"=some true:=by decide +kernel
@[simp] theorem kb3:kb "int" "bool"=some false:=by decide +kernel
@[simp] theorem kb4:kb "str" "bool"=some false:=by decide +kernel
@[simp] theorem kb5:kb "tuple" "bool"=some false:=by decide +kernel
@[simp] theorem kb6:kb "list" "bool"=some false:=by decide +kernel
@[simp] theorem ks1:kb "NoneType" "str"=some false:=by decide +kernel
@[simp] theorem ks2:kb "bool" "str"=some false:=by decide +kernel
@[simp] theorem ks3:kb "int" "str"=some false:=by decide +kernel
@[simp] theorem ks4:kb "str" "str"=some true:=by decide +kernel
@[simp] theorem ks5:kb "tuple" "str"=some false:=by decide +kernel
@[simp] theorem ks6:kb "list" "str"=some false:=by decide +kernel
@[simp] theorem kt1:kb "NoneType" "tuple"=some false:=by decide +kernel
@[simp] theorem kt2:kb "bool" "tuple"=some false:=by decide +kernel
@[simp] theorem kt3:kb "int" "tuple"=some false:=by decide +kernel
@[simp] theorem kt4:kb "str" "tuple"=some false:=by decide +kernel
@[simp] theorem kt5:kb "tuple" "tuple"=some true:=by decide +kernel
@[simp] theorem kt6:kb "list" "tuple"=some false:=by decide +kernel
noncomputable def QD:D->Bool
 | .tup _=>true
 | _=>false
noncomputable def isInt:D->Bool
 | .int _=>true
 | .bl _=>true
 | _=>false
variable {d:D}
theorem qa0 (h:Pl d):xR "tuple" d=.ok (.bl (QD d)):=by cases d <;> first | exact h.elim | simp [xR,tyN,QD]
noncomputable def XV:D->Bool
 | .str x=>decide (x.length=1)&&(!vh x "a"&&!vh "z" x)
 | _=>false
noncomputable def Vx (lo hi:Int):D->Bool
 | .int i=>decide (lo<=i)&&decide (i<=hi)
 | _=>false
theorem yZ (h:Pl d):kZ [d]=.ok (.bl (XV d),[.non]):=by
 refine runD_ap.trans ?_
 cases d <;> first
  | exact h.elim
  | (simp [kY,qv,qB,xR,tyN,XV]; done)
  | skip
 rename_i x
 by_cases h1:x.length=1
 ·have h1':(x.length:Int)=1:=by omega
  cases h2:vh x "a" <;> simp [kY,qv,xR,tyN,kG,eqD,eqN,eqS,leD,qB,XV,h1,h1',h2]
 ·have h1':¬(x.length:Int)=1:=by omega
  simp [kY,qv,xR,tyN,kG,eqD,eqN,eqS,leD,qB,XV,h1,h1']
theorem kO (h:Pl d) (lo hi:Int):jQ [d,.int lo,.int hi]=.ok (.bl (Vx lo hi d),[.non,.non,.non]):=by
 refine runD_ap.trans ?_
 cases d <;> first
  | exact h.elim
  | (simp [vy,qv,qB,xR,tyN,Vx,yH]; done)
  | skip
 rename_i i
 by_cases h1:lo<=i <;> simp [vy,qv,xR,tyN,leD,qB,Vx,yH,h1]
theorem XW {c:Nat} (h:az c):XV (.str ⟨#[c]⟩)=true:=by
 have ha:(ao "a").cps.toList=[97]:=by decide +kernel
 have hz:(ao "z").cps.toList=[122]:=by decide +kernel
 obtain ⟨h1,h2⟩:=h
 have l1:¬([c]:List Nat) < [97]:=by
  rw [List.cons_lt_cons_iff]
  simp
  omega
 have l2:¬([122]:List Nat) < [c]:=by
  rw [List.cons_lt_cons_iff]
  simp
  omega
 have e1:vh ⟨#[c]⟩ (ao "a")=false:=by
  unfold vh
  rw [ha]
  exact decide_eq_false l1
 have e2:vh (ao "z") ⟨#[c]⟩=false:=by
  unfold vh
  rw [hz]
  exact decide_eq_false l2
 simp [XV,zB,e1,e2]
theorem gC (f:α->Bool):∀ l:List α,yK (l.map fun x=>.bl (f x))=some (l.map f)
 | []=>rfl
 | a::l=>by
  have ih:=gC f l
  simp [yK,ih]
theorem xA (f:α->Bool) (l:List α):Zs (.lst (l.map fun x=>.bl (f x)))=.ok (.bl (l.all f)):=by
 simp only [Zs,gC]
 simp [List.all_map,e7]
theorem XX (hw:Kj w) (p:Int):∃ c,az c/\zC w p=⟨#[c]⟩:=by
 have hn:w.cps.toList.length=w.length:=by simp [zB]
 have hl:yi w.length p < w.cps.toList.length:=by
  have:=hw.1
  rw [hn]
  unfold yi
  omega
 refine ⟨w.cps.toList[yi w.length p],hw.2.2 _ (cA hl),?_⟩
 unfold zC
 rw [aJ hl]
 rfl
theorem gD (hw:Kj w):wJ [.str w]=.ok (.bl true,[.non]):=by
 refine runD_ap.trans ?_
 have e:=uy (cap:=[]) (fi:=wt (qg 0)) (ρ:=[some (.str w)]) (ρ1:=[some (.str w)]) (ds:=Jr w) (fe:=qC [.vl] kZ (qe (qg 0) qF)) (fun d=>.bl (XV d)) (by simp [ku]) (by
   have:=hw.2.1
   simp [Jr,<-zB]
   exact jy (by omega)) (fun d hd=>by
   obtain ⟨c,hc,rfl⟩:=aH.mp hd
   have h1:=yZ (d:=.str ⟨#[c]⟩) trivial
   simp [qH,jT,h1])
 have ha:(Jr w).all XV=true:=by
  rw [aZ]
  intro d hd
  obtain ⟨c,hc,rfl⟩:=aH.mp hd
  exact XW (hw.2.2 c hc)
 have h1:(1:Int)<=w.length:=by have:=hw.1; omega
 have h6:(w.length:Int)<=6:=by have:=hw.2.1; omega
 simp only [zm,qv,aA,aT,ae,aq,Nat.reduceAdd,eO,cR,bi]
 simp [xR,tyN,yH,kG,leD,h1,h6,e,xA,ha,qB]
theorem uJ:∀ (ws ks:List Str),ws.Nodup->(∀ x∈ws,x∉ks)->ws.foldl jU ks=ks++ws
 | [],ks,_,_=>by simp
 | w::ws,ks,hn,hd=>by
  have h1:=aS.mp hn
  rw [bO,show jU ks w=ks++[w] from if_neg (hd w (aw ..)),uJ ws (ks++[w]) h1.2 ?_]
  ·simp
  ·intro x hx z
   rcases bc.mp z with z | z
   ·exact hd x (af _ hx) z
   ·rw [aC.mp z] at hx
    exact h1.1 hx
theorem vS (ws:List Str):∀ ks:List Str,ks.Nodup->(ws.foldl jU ks).Nodup/\∀ x,x∈ws.foldl jU ks↔x∈ks\/x∈ws:=by
 induction ws with
 | nil=>intro ks hn; exact ⟨hn,fun x=>by simp⟩
 | cons w ws ih=>
  intro ks hn
  have hn2:(jU ks w).Nodup:=by
   unfold jU
   split
   ·exact hn
   ·rename_i h
    exact eh.mpr ⟨hn,by simp,fun a ha b hb=>by
     rw [aC.mp hb]
     exact fun z=>h (z ▸ ha)⟩
  obtain ⟨a,b⟩:=ih (jU ks w) hn2
  refine ⟨a,fun x=>?_⟩
  rw [bO,b x]
  unfold jU
  split
  ·rename_i h
   constructor
   ·rintro (q | q)
    ·exact .inl q
    ·exact .inr (af _ q)
   ·rintro (q | q)
    ·exact .inl q
    ·rcases ac.mp q with rfl | q
     ·exact .inl h
     ·exact .inr q
  ·simp [bc,or_assoc]
theorem Vy (hw:jJ ws):yu [.tup (ws.map D.str)]=.ok (.bl true,[.non]):=by
 refine runD_ap.trans ?_
 have e:=uy (cap:=[]) (fi:=wt (qg 0)) (ρ:=[some (.tup (ws.map D.str))]) (ρ1:=[some (.tup (ws.map D.str))]) (ds:=ws.map D.str) (fe:=qC [.vl] wJ (qe (qg 0) qF)) (fun d=>.bl true) (by simp [ku]) (by
   rw [aG]
   exact jy (by have:=hw.2.1; omega)) (fun d hd=>by
   obtain ⟨w,hm,rfl⟩:=aH.mp hd
   have h1:=gD (hw.2.2.2 w hm)
   simp [qH,jT,h1])
 have h1:(1:Int)<=ws.length:=by have:=hw.1; omega
 have h6:(ws.length:Int)<=6:=by have:=hw.2.1; omega
 have hf:ws.foldl jU []=ws:=by rw [uJ ws [] hw.2.2.1 (by simp)]; simp
 have h4:ws.length < 4000:=by omega
 have ha:=xA (fun _:D=>true) (ws.map D.str)
 simp only [yt,qv,aA,aT,ae,aq,Nat.reduceAdd,eO,cR,bi]
 simp [-fm,xR,tyN,yH,kG,leD,h1,h6,e,ha,qB,gY,ut,vd,hf,h4,eqD,eqN,eqS]
theorem zY (hw:jJ ws):wf [.tup (ws.map D.str)]=.ok (.non,[.non]):=by
 refine runD_ap.trans ?_
 have h:=Vy hw
 simp [we,qv,qB,qH,jT,h,yH]
theorem Uw (hl:WQ p q):zu [.tup [.int p,.int q]]=.ok (.bl true,[.non]):=by
 refine runD_ap.trans ?_
 have e:=uy (cap:=[]) (fi:=wt (qg 0)) (ρ:=[some (.tup [.int p,.int q])]) (ρ1:=[some (.tup [.int p,.int q])]) (ds:=[.int p,.int q]) (fe:=qC [.vl,.vl,.vl] jQ (qe (qg 0) (qe (dC (.int (-3))) (qe (dC (.int 2)) qF)))) (fun d=>.bl (Vx (-3) 2 d)) (by simp [ku]) (jy (by simp)) (fun d hd=>by
   have hd:d=.int p\/d=.int q:=by simpa using hd
   have h1:=kO (d:=.int p) trivial (-3) 2
   have h2:=kO (d:=.int q) trivial (-3) 2
   rcases hd with rfl | rfl
   ·simp [qH,jT,h1]
   ·simp [qH,jT,h2])
 have b1:Vx (-3) 2 (.int p)=true:=by simp [Vx]; exact hl.1
 have b2:Vx (-3) 2 (.int q)=true:=by simp [Vx]; exact hl.2
 simp only [zt,qv,aA,aT,ae,aq,Nat.reduceAdd,eO,cR,bi]
 simp [xR,tyN,yH,kG,neD,eqN,eqS,e,Zs,yK,b1,b2,qB]
theorem QE (hl:WQ p q):wQ [.tup [.int p,.int q]]=.ok (.non,[.non]):=by
 refine runD_ap.trans ?_
 have h:=Uw hl
 simp [wP,qv,qB,qH,jT,h,yH]
theorem qae (hw:jJ ws) (hl:WQ p q):Vc [Wd ws,Ld p q]=.ok (.lst (jK (qL ws p q)),[.non,.non]):=by
 refine runD_ap.trans ?_
 have e:=gB (G:=va) hw (p:=p) (q:=q) fun w hm=>⟨yY (hw.2.2.2 w hm) p,yY (hw.2.2.2 w hm) q⟩
 have c1:=zY hw
 have c2:=QE hl
 simp only [Vb,qv,aA,aT,ae,aq,Nat.reduceAdd,eO,cR,bi]
 simp [qH,jT,c1,c2,e,qB]
variable {a:List Str}
theorem JX {b:List Str} (ha:a.Nodup) (hb:b.Nodup) (h:∀ x,x∈a↔x∈b):a.Perm b:=(List.perm_ext_iff_of_nodup ha hb).mpr h
theorem XY {b:List Str} (h:∀ x,x∈a↔x∈b):ke (a.foldl jU [])=ke (b.foldl jU []):=by
 obtain ⟨n1,m1⟩:=vS a [] bJ
 obtain ⟨n2,m2⟩:=vS b [] bJ
 have p:=JX n1 n2 fun x=>by
  rw [m1,m2,h]
 exact wF ((qK _).trans (p.trans (qK _).symm)) (je _) (je _)
noncomputable def LS (l:List (Str×Str)):List Str:=ke ((l.map (·.1)++l.map (·.2)).foldl jU [])
variable {x:Str}
theorem mem_LS {l:List (Str×Str)}:x∈LS l↔∃ p∈l,x=p.1\/x=p.2:=by
 unfold LS
 rw [(qK _).mem_iff,(vS _ [] bJ).2]
 simp only [bo,false_or,bc,aH]
 constructor
 ·rintro (⟨p,hp,rfl⟩ | ⟨p,hp,rfl⟩)
  ·exact ⟨p,hp,.inl rfl⟩
  ·exact ⟨p,hp,.inr rfl⟩
 ·rintro ⟨p,hp,rfl | rfl⟩
  ·exact .inl ⟨p,hp,rfl⟩
  ·exact .inr ⟨p,hp,rfl⟩
theorem QF {l:List (Str×Str)} (hl:l.length<=20):kx [.lst (jK l)]=.ok (.lst ((LS l).map D.str),[.non]):=by
 refine runD_ap.trans ?_
 have hz:(jK l).length<=sizeLine:=by
  unfold jK
  rw [aG]
  exact jy (by omega)
 have e1:=uy (cap:=[]) (fi:=wt (qg 0)) (ρ:=[some (.lst (jK l))]) (ρ1:=[some (.lst (jK l))]) (ds:=jK l) (fe:=d2 ixD (qg 0) (dC (.int 0))) (fun d=>match d with | .tup [a,b]=>a | d=>d) (by simp [ku]) hz (fun d hd=>by
   obtain ⟨x,hx,rfl⟩:=aH.mp hd
   simp [ixD,atI,ixN])
 have e2:=uy (cap:=[]) (fi:=wt (qg 0)) (ρ:=[some (.lst (jK l))]) (ρ1:=[some (.lst (jK l))]) (ds:=jK l) (fe:=d2 ixD (qg 0) (dC (.int 1))) (fun d=>match d with | .tup [a,b]=>b | d=>d) (by simp [ku]) hz (fun d hd=>by
   obtain ⟨x,hx,rfl⟩:=aH.mp hd
   simp [ixD,atI,ixN])
 have f1:(jK l).map (fun d=>match d with | .tup [a,b]=>a | d=>d)=(l.map (·.1)).map D.str:=by simp [jK]
 have f2:(jK l).map (fun d=>match d with | .tup [a,b]=>b | d=>d)=(l.map (·.2)).map D.str:=by simp [jK]
 rw [f1] at e1
 rw [f2] at e2
 have hs:l.length+l.length<=sizeLine:=jy (by omega)
 have h64:l.length+l.length < 64:=by omega
 simp only [wR,qv,aA,aT,ae,aq,Nat.reduceAdd,eO,cR,bi,vG,kJ,vi,e1,e2,qG]
 simp only [vD,aG,if_pos hs,jH,qG,<-cI,jX,ut,vd,am,if_pos h64]
 simp [qB,LS]
theorem WH:∀ l:List (Str×Str),(l.flatMap fun p=>[p.1,p.2]).length=2 * l.length
 | []=>rfl
 | a::l=>by
  rw [List.flatMap_cons,am,WH l,ae]
  simp
  omega
def qeF (d:D):Prop:=Pl d/\∀ xs,d=.tup xs->∀ x∈xs,Pl x
noncomputable def XZ (room:Int):D->Bool
 | .tup [a,b]=>XV a&&Vx 0 (room - 1) b
 | _=>false
theorem at0 {a:D} {l:List D}:atI (a::l) 0=some a:=by
 have:=uA (a::l) 0
 simpa using this
theorem at1 {a b:D} {l:List D}:atI (a::b::l) 1=some b:=by
 have:=uA (a::b::l) 1
 simpa using this
theorem Vz (h:qeF d) (room:Int):uf [d,.int room]=.ok (.bl (XZ room d),[.non,.non]):=by
 refine runD_ap.trans ?_
 have ht:=qa0 h.1
 cases d with
 | tup xs=>
  have hp:=h.2 xs rfl
  match xs,hp with
  | [],_=>simp [kg,qv,qB,ht,QD,yH,kG,neD,eqN,eqS,XZ]
  | [a],_=>simp [kg,qv,qB,ht,QD,yH,kG,neD,eqN,eqS,XZ]
  | [a,b],hp=>
   have h1:=yZ (hp a (by simp))
   have h2:=kO (hp b (by simp)) 0 (room - 1)
   cases hb:XV a <;> simp [kg,qv,qB,ht,QD,yH,kG,neD,eqN,eqS,XZ,ixD,at0,at1,qH,jT,h1,h2,hb,VQ,gL]
  | a::b::c::l,_=>
   have hne:¬((l.length:Int)+1+1+1=2):=by omega
   simp [kg,qv,qB,ht,QD,yH,kG,neD,eqN,eqS,XZ,hne]
 | _=>first | exact h.1.elim | simp [kg,qv,qB,ht,QD,yH,XZ]
noncomputable def prL (l:List (Str×Int)):List D:=l.map fun x=>.tup [.str x.1,.int x.2]
def OkW (room:Int) (l:List (Str×Int)):Prop:=∀ x∈l,XV (.str x.1)=true/\0<=x.2/\x.2 < room
variable {l:List (Str×Int)} {room:Int}
theorem qcq (h:OkW room l):(prL l).all (XZ room)=true:=by
 rw [aZ]
 intro d hd
 obtain ⟨x,hx,rfl⟩:=aH.mp hd
 obtain ⟨h1,h2,h3⟩:=h x hx
 simp [XZ,h1,Vx,h2]
 omega
noncomputable def jo (l:List (Str×Int)):List Str:=l.map (·.1)
theorem JY:∀ (a b:List Str),wq (eqN 7) (a.map D.str) (b.map D.str)=some (decide (a.take (min a.length b.length)=b.take (min a.length b.length)))
 | [],b=>by simp [wq]
 | a::l,[]=>by simp [wq]
 | a::l,b::m=>by
  have ih:=JY l m
  simp only [aA,wq,ih,eqN,eqS,ae,Nat.succ_eq_add_one,show min (l.length+1) (m.length+1)=min l.length m.length+1 by omega,List.take_succ_cons]
  by_cases h:a=b <;> simp [h]
theorem qaf (a b:List Str):eqD (.lst (a.map D.str)) (.lst (b.map D.str))=.ok (.bl (decide (a=b))):=by
 by_cases h:a.length=b.length
 ·have e:=JY a b
  rw [h,Nat.min_self,fj,<-h,fj] at e
  simp [eqD,eqN,h,e]
 ·have hne:a≠b:=fun z=>h (by rw [z])
  simp [eqD,eqN,h,hne]
noncomputable def VA (l:List (Str×Int)):Bool:=decide (jo l=ke ((jo l).foldl jU []))
theorem xa (h:∀ d∈ds,qeF d) (hl:ds.length<=50) (room:Int):(ds.all (XZ room)=false->kh [.tup ds,.int room]=.ok (.bl false,[.non,.non]))/\∀ l,ds=prL l->OkW room l->kh [.tup ds,.int room]=.ok (.bl (VA l),[.non,.non]):=by
 have hz:ds.length<=sizeLine:=jy (by omega)
 have ht:=qa0 (d:=.tup ds) trivial
 have e1:=uy (cap:=[1]) (fi:=wt (qg 0)) (ρ:=[some (.tup ds),some (.int room),none]) (ρ1:=[some (.tup ds),some (.int room),none]) (ds:=ds) (fe:=qC [.vl,.vl] uf (qe (qg 0) (qe (qg 1) qF))) (fun d=>.bl (XZ room d)) (by simp [ku]) hz (fun d hd=>by
   have h1:=Vz (h d hd) room
   simp [qH,jT,h1])
 have ha:=xA (XZ room) ds
 constructor
 ·intro hb
  refine runD_ap.trans ?_
  simp [wc,qv,qB,ht,QD,yH,e1,ha,hb]
 ·rintro l rfl hw
  refine runD_ap.trans ?_
  have hb:=qcq hw
  have e2:=uy (cap:=[]) (fi:=wt (qg 0)) (ρ:=[some (.tup (prL l)),some (.int room),none]) (ρ1:=[some (.tup (prL l)),some (.int room),none]) (ds:=prL l) (fe:=d2 ixD (qg 0) (dC (.int 0))) (fun d=>match d with | .tup [a,b]=>a | d=>d) (by simp [ku]) hz (fun d hd=>by
   obtain ⟨x,hx,rfl⟩:=aH.mp hd
   simp [ixD,at0])
  have f2:(prL l).map (fun d=>match d with | .tup [a,b]=>a | d=>d)=(jo l).map D.str:=by simp [prL,jo]
  rw [f2] at e2
  have h64:(jo l).length < 64:=by
   simp [jo]
   simp [prL] at hl
   omega
  have ee:=qaf (jo l) (ke ((jo l).foldl jU []))
  simp [wc,qv,qB,ht,QD,yH,e1,ha,hb,e2,jX,ut,vd,h64,ee,VA]
noncomputable def VB:List Str->Bool
 | x::y::l=>vh x y&&VB (y::l)
 | _=>true
theorem qfs {y:Str} (h:vh x y=true):leS x y/\x≠y:=by
 unfold vh at h
 have h:=of_decide_eq_true h
 constructor
 ·exact List.le_of_lt h
 ·rintro rfl
  exact List.lt_irrefl _ h
theorem qft {y:Str} (h:leS x y) (n:x≠y):vh x y=true:=by
 cases e:vh x y with
 | true=>rfl
 | false=>exact absurd (gU h (strLt_false.mp e)) n
theorem VC:∀ (l:List Str),VB l=true->l.Pairwise (fun x y=>leS x y/\x≠y)
 | [],_=>d8
 | [x],_=>dW _ _
 | x::y::l,h=>by
  have h:(vh x y&&VB (y::l))=true:=h
  rw [aP] at h
  have ih:=VC (y::l) h.2
  have hxy:=qfs h.1
  refine bG.mpr ⟨fun z hz=>?_,ih⟩
  rcases ac.mp hz with rfl | hz
  ·exact hxy
  ·have hyz:=(bG.mp ih).1 z hz
   refine ⟨xY hxy.1 hyz.1,fun e=>?_⟩
   subst e
   exact hxy.2 (gU hxy.1 hyz.1)
theorem Za:∀ (l:List Str),l.Pairwise (fun x y=>leS x y/\x≠y)->VB l=true
 | [],_=>rfl
 | [x],_=>rfl
 | x::y::l,h=>by
  have h1:=bG.mp h
  have hxy:=h1.1 y (aw ..)
  show (vh x y&&VB (y::l))=true
  rw [qft hxy.1 hxy.2,Za (y::l) h1.2]
  rfl
theorem WI {l:List Str} (h:l.Pairwise (fun x y=>leS x y/\x≠y)):l.Nodup:=h.imp fun h=>h.2
theorem qag (L:List Str):decide (L=ke (L.foldl jU []))=VB L:=by
 cases e:VB L with
 | true=>
  have p:=VC L e
  have hn:=WI p
  have hf:L.foldl jU []=L:=by rw [uJ L [] hn (by simp)]; simp
  rw [hf]
  exact decide_eq_true (wF (qK L).symm (p.imp fun h=>h.1) (je L))
 | false=>
  refine decide_eq_false fun z=>?_
  have hn:(ke (L.foldl jU [])).Nodup:=(qK _).nodup_iff.mpr (vS L [] bJ).1
  have hs:=je (L.foldl jU [])
  rw [<-z] at hn hs
  have p:L.Pairwise (fun x y=>leS x y/\x≠y):=hs.and hn
  rw [Za L p] at e
  cases e
theorem gE (h:VA l=true):(jo l).Nodup:=by
 unfold VA at h
 rw [qag] at h
 exact WI (VC _ h)
noncomputable def bk (l:List (Str×Int)):List (Key×D):=l.map fun x=>(.inr x.1,.int x.2)
theorem JZ:∀ l:List (Str×Int),yN (prL l)=some (bk l)
 | []=>rfl
 | x::l=>by
  have ih:=JZ l
  unfold prL at ih ⊢
  rw [aA]
  simp [yN,Gr,Gp,ih,bk]
theorem Zb:∀ (l:List (Str×Int)) (a:List (Key×D)),(jo l).Nodup->(∀ x∈l,∀ p∈a,p.1≠.inr x.1)->(bk l).foldl (fun a p=>Gq a p.1 p.2) a=a++bk l
 | [],a,_,_=>by simp [bk]
 | x::l,a,hn,hd=>by
  have h1:=aS.mp (show (x.1::jo l).Nodup from hn)
  have hp:Gq a (.inr x.1) (.int x.2)=a++[(.inr x.1,.int x.2)]:=by
   unfold Gq
   rw [if_neg]
   simp only [List.any_eq_true,decide_eq_true_eq,not_exists,not_and]
   exact fun p hp=>hd x (aw ..) p hp
  have ih:=Zb l (a++[(.inr x.1,.int x.2)]) h1.2 (fun y hy p hp=>by
   rcases bc.mp hp with hp | hp
   ·exact hd y (af _ hy) p hp
   ·rw [aC.mp hp]
    intro z
    have z:x.1=y.1:=dJ.inj z
    exact h1.1 (z ▸ aH.mpr ⟨y,hy,rfl⟩))
  show ((bk l).foldl (fun a p=>Gq a p.1 p.2) (Gq a (.inr x.1) (.int x.2)))=a++(.inr x.1,.int x.2)::bk l
  rw [hp,ih]
  simp
theorem Zc (h:(jo l).Nodup):zR (.tup (prL l))=.ok (.dct (bk l)):=by
 have e:=Zb l [] h (fun _ _ p hp=>by cases hp)
 simp at e
 simp [zR,JZ,e]
theorem qd8 (l:List (Str×Int)) (x:Str):qdA (bk l) (.inr x)=decide (x∈jo l):=by
 unfold qdA bk jo
 rw [List.any_map]
 induction l with
 | nil=>simp
 | cons a l ih=>
  simp only [c7,aA,ac,ih]
  by_cases h:a.1=x
  ·simp [h]
  ·simp [h,aX h]
noncomputable def xb (l:List (Str×Int)) (x:Str):Int:=((l.find? fun y=>decide (y.1=x)).map (·.2)).getD 0
theorem VD:∀ {l:List (Str×Int)} {x:Str},x∈jo l->(x,xb l x)∈l/\(bk l).find? (fun kv=>decide (kv.1=dJ x))=some (.inr x,.int (xb l x))
 | [],x,h=>by cases h
 | a::l,x,h=>by
  by_cases e:a.1=x
  ·have hv:xb (a::l) x=a.2:=by simp [xb,e]
   rw [hv]
   refine ⟨?_,?_⟩
   ·rw [<-e]
    exact aw ..
   ·simp [bk,e]
  ·have hx:x∈jo l:=by
    rcases ac.mp (show x∈a.1::jo l from h) with z | z
    ·exact absurd z.symm e
    ·exact z
   obtain ⟨h1,h2⟩:=VD hx
   have hv:xb (a::l) x=xb l x:=by simp [xb,e]
   rw [hv]
   refine ⟨af _ h1,?_⟩
   rw [<-h2]
   simp [bk,e]
theorem qah (h:x∈jo l):ixD (.dct (bk l)) (.str x)=.ok (.int (xb l x)):=by
 simp [ixD,(VD h).2]
theorem qa1 (hw:OkW room l) (h:x∈jo l):0<=xb l x/\xb l x < room:=(hw _ (VD h).1).2
abbrev nn4:Sl:=[some .non,some .non,some .non,some .non]
theorem QG (h:Pl d):wN [d]=if Vx 1 99 d=true then .ok (.non,[.non]) else .exc "NoRoom" [some .non]:=by
 refine runD_ap.trans ?_
 have h1:=kO h 1 99
 have hz:1<=sizeLine:=jy (by omega)
 cases e:Vx 1 99 d <;> simp [wM,qv,qB,qH,jT,h1,e,yH,ky]
theorem zE {b:Bool} (h:kh [d,.int room]=.ok (.bl b,[.non,.non])):vI [d,.int room]=if b=true then .ok (.non,[.non,.non]) else .exc "NoWorths" [some .non,some .non]:=by
 refine runD_ap.trans ?_
 cases b <;> simp [vH,qv,qB,qH,jT,h,yH,ky]
theorem Zd (t room:Int):xx [.int t,.int room]=.ok (.int (if room<=t then t - room else t),[.non,.non]):=by
 refine runD_ap.trans ?_
 by_cases h:room<=t <;> simp [Qq,qv,qB,geD,gL,VQ,h]
variable {r:Int}
section
variable (hw:jJ ws) (hl:WQ p q)
include hw hl
noncomputable def qa2 (l:List (Str×Int)) (s:List (Str×Str)) (r:Int):List D:=s.map fun x=>.int ((xb l x.1+xb l x.2) % r)
omit hw hl in
theorem qgs {a b:Int} (ha:0<=a/\a < r) (hb:0<=b/\b < r):(if r<=a+b then a+b - r else a+b)=(a+b) % r:=by
 split
 ·rw [<-Int.sub_emod_right,Int.emod_eq_of_lt (by omega) (by omega)]
 ·rw [Int.emod_eq_of_lt (by omega) (by omega)]
theorem zF (hr:Vx 1 99 (.int r)=true) (ho:OkW r l) (hs:VA l=true) (h:kh [.tup (prL l),.int r]=.ok (.bl true,[.non,.non])) :
  jS [Wd ws,Ld p q,.int r,.tup (prL l)]=if (LS (qL ws p q)).all (fun x=>decide (x∈jo l))=true then .ok (.tup (qa2 l (qL ws p q) r),[.non,.non,.non,.non]) else .exc "NoWorths" nn4:=by
 refine runD_ap.trans ?_
 have h1:=qae hw hl
 have h2:=QG (d:=.int r) trivial
 rw [hr] at h2
 have h3:=zE h
 have h4:=Zc (gE hs)
 have hn:(qL ws p q).length<=6:=by simp [qL]; exact hw.2.1
 have h5:=QF (l:=qL ws p q) (by omega)
 have hLn:(LS (qL ws p q)).length<=2000:=by
  unfold LS
  rw [(qK _).length_eq]
  have:=vM ((qL ws p q).map (·.1)++(qL ws p q).map (·.2)) []
  simp only [am,aG,aq] at this
  omega
 have e1:=uy (cap:=[5]) (fi:=wt (qC [.vl] kx (qe (qg 4) qF))) (ρ:=[some (Wd ws),some (Ld p q),some (.int r),some (.tup (prL l)),some (.lst (jK (qL ws p q))),some (.dct (bk l))]) (ρ1:=[some (Wd ws),some (Ld p q),some (.int r),some (.tup (prL l)),some (.lst (jK (qL ws p q))),some (.dct (bk l))]) (ds:=(LS (qL ws p q)).map D.str)
  (fe:=d2 inA (qg 0) (qg 1)) (fun d=>match d with | .str x=>.bl (decide (x∈jo l)) | d=>d) (by simp [qH,jT,h5,ku]) (by rw [aG]; exact jy hLn) (fun d hd=>by
   obtain ⟨x,hx,rfl⟩:=aH.mp hd
   simp [inA,Gp,qd8])
 rw [fm] at e1
 have ha:=xA (fun x=>decide (x∈jo l)) (LS (qL ws p q))
 have e1':jB [] 1 [5] (wt (qC [.vl] kx (qe (qg 4) qF))) (gNm 0) ftT (d2 inA (qg 0) (qg 1)) [some (Wd ws),some (Ld p q),some (.int r),some (.tup (prL l)),some (.lst (jK (qL ws p q))),some (.dct (bk l))]=.ok (.lst ((LS (qL ws p q)).map fun x=>.bl (decide (x∈jo l))),[some (Wd ws),some (Ld p q),some (.int r),some (.tup (prL l)),some (.lst (jK (qL ws p q))),some (.dct (bk l))]):=e1
 cases hA:(LS (qL ws p q)).all (fun x=>decide (x∈jo l)) with
 | false=>
  rw [hA] at ha
  simp [uh,qv,qB,qH,jT,h1,h2,h3,h4,e1',ha,yH,ky]
 | true=>
  rw [hA] at ha
  have hin:∀ x∈qL ws p q,x.1∈jo l/\x.2∈jo l:=fun x hx=>by
   rw [aZ] at hA
   exact ⟨of_decide_eq_true (hA x.1 (mem_LS.mpr ⟨x,hx,.inl rfl⟩)),of_decide_eq_true (hA x.2 (mem_LS.mpr ⟨x,hx,.inr rfl⟩))⟩
  have e2:=uy (cap:=[2,5]) (fi:=wt (qg 4)) (ρ:=[some (Wd ws),some (Ld p q),some (.int r),some (.tup (prL l)),some (.lst (jK (qL ws p q))),some (.dct (bk l))]) (ρ1:=[some (Wd ws),some (Ld p q),some (.int r),some (.tup (prL l)),some (.lst (jK (qL ws p q))),some (.dct (bk l))]) (ds:=jK (qL ws p q))
   (fe:=qC [.vl,.vl] xx (qe (d2 vD (d2 ixD (qg 2) (d2 ixD (qg 0) (dC (.int 0)))) (d2 ixD (qg 2) (d2 ixD (qg 0) (dC (.int 1))))) (qe (qg 1) qF))) (fun d=>match d with | .tup [.str a,.str b]=>.int ((xb l a+xb l b) % r) | d=>d) (by simp [ku]) (by simp [jK]; exact jy (by omega)) (fun d hd=>by
    obtain ⟨x,hx,rfl⟩:=aH.mp hd
    obtain ⟨i1,i2⟩:=hin x hx
    have j1:=qah i1
    have j2:=qah i2
    have wr:=qgs (qa1 ho i1) (qa1 ho i2)
    have wi:=Zd (xb l x.1+xb l x.2) r
    rw [wr] at wi
    have k0:ixD (.tup [.str x.1,.str x.2]) (.int 0)=.ok (.str x.1):=by simp [ixD,at0]
    have k1:ixD (.tup [.str x.1,.str x.2]) (.int 1)=.ok (.str x.2):=by simp [ixD,at1]
    simp [qH,jT,k0,k1,j1,j2,vD,wi])
  have f2:(jK (qL ws p q)).map (fun d=>match d with | .tup [.str a,.str b]=>.int ((xb l a+xb l b) % r) | d=>d)=qa2 l (qL ws p q) r:=by simp [jK,qa2]
  rw [f2] at e2
  simp [uh,qv,qB,qH,jT,h1,h2,h3,h4,e1',ha,yH,e2,uX]
end
theorem jL {ms:List PM} {f g:Sl->Out (Fl×Sl)} (h:f ρ=.ok (.nx,ρ1)):Zu ms (jm f g ρ)=Zu ms (g ρ1):=by
 rw [Qa,h]
 rfl
abbrev qd9:Sl->Out (Fl×Sl):=(wx (KD 2 qez (d1 KF (qg 3))))
theorem Ka (a b:Option D):∀ (l:List (Str×Str)) (made:List Str) (x:Option D),made.length+2 * l.length<=1000->∃ x',xo (gNm 3) qd9 (jK l) [a,b,some (.lst (made.map D.str)),x]=.ok (.nx,[a,b,some (.lst ((made++l.flatMap fun p=>[p.1,p.2]).map D.str)),x'])
 | [],made,x,_=>⟨x,by simp [jK,xo]⟩
 | p::l,made,x,h=>by
  rw [ae] at h
  obtain ⟨x',e⟩:=Ka a b l (made++[p.1,p.2]) (some (.tup [.str p.1,.str p.2])) (by rw [am]; simp; omega)
  refine ⟨x',?_⟩
  have hz:2<=sizeLine:=jy (by omega)
  have hz2:made.length+2<=sizeLine:=jy (by omega)
  rw [show (made++(p::l).flatMap fun p=>[p.1,p.2])=(made++[p.1,p.2])++l.flatMap fun p=>[p.1,p.2] by simp,<-e]
  simp [jK,xo,qd9,xQ,qez,KF,hz,hz2]
theorem zZ (hw:jJ ws) (hl:WQ p q):yC [Wd ws,Ld p q]=.ok (.lst ((LS (qL ws p q)).map D.str),[.non,.non]):=by
 refine runD_ap.trans ?_
 have h1:=zD hw hl
 have hn:(qL ws p q).length<=6:=by simp [qL]; exact hw.2.1
 obtain ⟨x',e⟩:=Ka (some (Wd ws)) (some (Ld p q)) (qL ws p q) [] none (by simp; omega)
 have hf:((qL ws p q).flatMap fun p=>[p.1,p.2]).length < 64:=by
  rw [WH]
  omega
 have hs:ke (((qL ws p q).flatMap fun p=>[p.1,p.2]).foldl jU [])=LS (qL ws p q):=XY fun x=>by
  simp only [List.mem_flatMap,bc,aH,ac,bo,or_false]
  constructor
  ·rintro ⟨p,hp,rfl | rfl⟩
   ·exact .inl ⟨p,hp,rfl⟩
   ·exact .inr ⟨p,hp,rfl⟩
  ·rintro (⟨p,hp,rfl⟩ | ⟨p,hp,rfl⟩)
   ·exact ⟨p,hp,.inl rfl⟩
   ·exact ⟨p,hp,.inr rfl⟩
 simp only [aT,bq] at e
 simp [yB,qv,qB,qH,jT,h1,ku]
 rw [e]
 simp only [qG,kJ,qJ,ah,aj,jX,ut,vd,if_pos hf,hs]
 simp [qB]
theorem Ze (hw:jJ ws) (hl:WQ p q) (hr:0 < r) (hk:∀ x∈LS (qL ws p q),x∈jo l):XI [Wd ws,Ld p q,.int r,.dct (bk l)]=.ok (.tup (qa2 l (qL ws p q) r),[.non,.non,.non,.non]):=by
 refine runD_ap.trans ?_
 have h1:=zD hw hl
 have hn:(qL ws p q).length<=6:=by simp [qL]; exact hw.2.1
 have e:=Vw (own:=[]) (cap:=[2,3]) (fi:=wt (qC [.vl,.vl] zy (qe (qg 0) (qe (qg 1) qF)))) (ft:=ftT) (fe:=d2 Yj (d2 vD (d2 ixD (qg 3) (qg 0)) (d2 ixD (qg 3) (qg 1))) (qg 2))
  (ρ:=[some (Wd ws),some (Ld p q),some (.int r),some (.dct (bk l))]) (ρ1:=[some (Wd ws),some (Ld p q),some (.int r),some (.dct (bk l))]) (ps:=(qL ws p q).map fun x=>(.str x.1,.str x.2)) (fun _=>true) (fun d=>match d with | (.str a,.str b)=>.int ((xb l a+xb l b) % r) | _=>.non) (by simp)
  (by simp [qH,jT,h1,ku,jK]) (by rw [aG]; exact jy (by omega)) (fun _ _=>rfl) (fun d hd _=>by
   obtain ⟨x,hx,rfl⟩:=aH.mp hd
   have j1:=qah (hk x.1 (mem_LS.mpr ⟨x,hx,.inl rfl⟩))
   have j2:=qah (hk x.2 (mem_LS.mpr ⟨x,hx,.inr rfl⟩))
   simp [j1,j2,vD,Yj,gL,hr])
 rw [eM.mpr (fun _ _=>rfl)] at e
 have f:((qL ws p q).map fun x=>(D.str x.1,D.str x.2)).map (fun d=>match d with | (.str a,.str b)=>.int ((xb l a+xb l b) % r) | _=>.non)=qa2 l (qL ws p q) r:=by simp [qa2]
 rw [f] at e
 unfold qcj
 rw [vG,kJ,show qv GV [Wd ws,Ld p q,.int r,.dct (bk l)]=[some (Wd ws),some (Ld p q),some (.int r),some (.dct (bk l))] from rfl,e]
 simp [uX,qB]
theorem gF (ns:List Int) (hr:0 < room):∀ (Ls:List Str) (town:List D) (x:Option D),town.length+Ls.length < 1000 ->
  ∃ (es:List (Str×Int)) (town':List D) (x':Option D),jo es=Ls/\(∀ e∈es,0<=e.2/\e.2 < room)/\town'.length=town.length+Ls.length /\
   jY (gNm 0) ftT (yk (qe (qg 0) (qe (qC [.vl,.sl 2,.vl] kB (qe (qg 1) (kE (qe (qg 3) qF)))) qF))) (Ls.map D.str) [x,some (scr ns),some (.lst town),some (.int room)]=.ok (prL es,[x',some (scr ns),some (.lst town'),some (.int room)])
 | [],town,x,_=>⟨[],town,x,rfl,by simp,by simp,rfl⟩
 | a::Ls,town,x,h=>by
  rw [ae] at h
  obtain ⟨r,r0,r1,hd⟩:=wT ns town (many:=room) hr (by omega)
  obtain ⟨es,town',x',a1,a0,a2,a3⟩:=gF ns hr Ls (town++[.int 0]) (some (.str a)) (by rw [am]; simp; omega)
  have z2:2<=sizeLine:=jy (by omega)
  refine ⟨(a,r)::es,town',x',by simp [jo] at a1 ⊢; exact a1,fun e he=>?_,by rw [a2,am]; simp; omega,?_⟩
  ·rcases ac.mp he with rfl | he
   ·exact ⟨r0,r1⟩
   ·exact a0 e he
  ·simp [jY,gQ,qH,jT,hd,z2,a3,prL]
noncomputable def MORE:List (List Str):=[[],["q"],["y", "x"]]
theorem qcr:∀ m∈MORE,m.length<=2/\∀ x∈m,∃ c,az c/\x=⟨#[c]⟩:=by
 have h1:∀ m∈MORE,∀ x∈m,x∈(["q", "y", "x"]:List Str):=by decide +kernel
 have h2:∀ m∈MORE,m.length<=2:=by decide +kernel
 refine fun m hm=>⟨h2 m hm,fun x hx=>?_⟩
 have:=h1 m hm x hx
 simp only [ac,bo,or_false] at this
 rcases this with rfl | rfl | rfl
 ·exact ⟨113,by unfold az; decide,by decide +kernel⟩
 ·exact ⟨121,by unfold az; decide,by decide +kernel⟩
 ·exact ⟨120,by unfold az; decide,by decide +kernel⟩
structure Made (ws:List Str) (p q r:Int) (l:List (Str×Int)):Prop where
 hw:jJ ws
 hl:WQ p q
 r0:1<=r
 r1:r<=20
 ok:OkW r l
 rise:VA l=true
 all:∀ x∈LS (qL ws p q),x∈jo l
 len:l.length<=14
theorem qea (hw:jJ ws) (p q:Int):(LS (qL ws p q)).length<=12:=by
 have hs:(qL ws p q).length<=6:=by simp [qL]; exact hw.2.1
 unfold LS
 rw [(qK _).length_eq]
 have:=vM ((qL ws p q).map (·.1)++(qL ws p q).map (·.2)) []
 simp only [am,aG,aq] at this
 omega
theorem qeb (hw:jJ ws) (p q:Int):LS (qL ws p q)≠[]:=by
 intro z
 cases ws with
 | nil=>
  have:=hw.1
  simp at this
 | cons w ws=>
  have:zC w p∈LS (qL (w::ws) p q):=mem_LS.mpr ⟨(zC w p,zC w q),by simp [qL],.inl rfl⟩
  rw [z] at this
  cases this
theorem qfu (hw:jJ ws) (p q:Int):∀ x∈LS (qL ws p q),∃ c,az c/\x=⟨#[c]⟩:=fun x hx=>by
 obtain ⟨y,hy,h⟩:=mem_LS.mp hx
 obtain ⟨w,hm,rfl⟩:=aH.mp hy
 rcases h with rfl | rfl
 ·exact XX (hw.2.2.2 w hm) p
 ·exact XX (hw.2.2.2 w hm) q
theorem qcs (ns:List Int) (town:List D) (ht:town.length < 500) {wide:Int} (w0:1<=wide) (w1:wide<=20):∃ ws p q r l town',Made ws p q r l/\town'.length<=town.length+80/\Vr [scr ns,.lst town,.int 6,.int wide]=.ok (.tup [Wd ws,Ld p q,.int r,.tup (prL l)],[.non,.lst town',.non,.non]):=by
 obtain ⟨r,r0,r1,g1⟩:=wT ns town (many:=wide) (by omega) (by omega)
 obtain ⟨p,q,t2,hl,ht2,g2⟩:=qco ns (town++[.int 0]) (by rw [am]; simp; omega)
 rw [am] at ht2
 simp at ht2
 obtain ⟨ws,t3,hw,ht3,g3⟩:=qad ns t2 (by omega)
 obtain ⟨d,hd,g4⟩:=QC ns t3 (MORE.map fun l=>.lst (l.map D.str)) (by simp [MORE]) (by omega)
 obtain ⟨more,hmore,rfl⟩:=aH.mp hd
 obtain ⟨hm2,hmaz⟩:=qcr more hmore
 have g5:=zZ hw hl
 have hL:=qea hw p q
 have hLn:=qeb hw p q
 have hLz:=qfu hw p q
 generalize hS:LS (qL ws p q)=L0 at g5 hL hLn hLz
 have hf:=vM (L0++more) []
 rw [am,aq] at hf
 have hset:=vS (L0++more) [] bJ
 have hlen:(ke ((L0++more).foldl jU [])).length<=14:=by rw [(qK _).length_eq]; omega
 have e:vD (.lst (L0.map D.str)) (.lst (more.map D.str))=.ok (.lst ((L0++more).map D.str)):=by
  have:L0.length+more.length<=sizeLine:=jy (by omega)
  simp [vD,this]
 have e2:jX (.lst ((L0++more).map D.str))=.ok (.lst ((ke ((L0++more).foldl jU [])).map D.str)):=by
  have:(L0++more).length < 64:=by rw [am]; omega
  simp only [jX,ut,vd,if_pos this]
 have hmem:∀ x,x∈ke ((L0++more).foldl jU [])↔x∈L0\/x∈more:=fun x=>by
  rw [(qK _).mem_iff,hset.2]
  simp
 have hrise:ke ((L0++more).foldl jU [])=ke ((ke ((L0++more).foldl jU [])).foldl jU []):=by
  have h1:=vS (ke ((L0++more).foldl jU [])) [] bJ
  refine wF ?_ (je _) (je _)
  refine (qK _).trans ((JX hset.1 h1.1 fun x=>?_).trans (qK _).symm)
  rw [h1.2,(qK _).mem_iff]
  simp
 generalize hL1:ke ((L0++more).foldl jU [])=L1 at e2 hlen hmem hrise
 obtain ⟨es,t5,x',hes,hes2,ht5,g7⟩:=gF ns (room:=1+r) (by omega) L1 (t3++[.int 0]) none (by rw [am]; simp; omega)
 have hesl:es.length=L1.length:=by rw [<-hes]; simp [jo]
 refine ⟨ws,p,q,1+r,es,t5,⟨hw,hl,by omega,by omega,fun x hx=>⟨?_,hes2 x hx⟩,?_,fun x hx=>?_,by omega⟩,?_,?_⟩
 ·have hk:x.1∈L1:=by rw [<-hes]; exact aH.mpr ⟨x,hx,rfl⟩
  rcases (hmem x.1).mp hk with z | z
  ·obtain ⟨c,hc,e⟩:=hLz x.1 z
   rw [e]; exact XW hc
  ·obtain ⟨c,hc,e⟩:=hmaz x.1 z
   rw [e]; exact XW hc
 ·unfold VA
  rw [hes]
  exact decide_eq_true hrise
 ·rw [hes]
  rw [hS] at hx
  exact (hmem x).mpr (.inl hx)
 ·rw [ht5,am]
  simp
  omega
 ·refine runD_ap.trans ?_
  have z4:4<=sizeLine:=jy (by omega)
  have z3:3<=sizeLine:=jy (by omega)
  unfold Vq
  simp only [qv,aA,aT,ae,aq,Nat.reduceAdd,Nat.reduceSub,au,bp,bq]
  simp only [MORE,aA,aT] at g4
  refine (jL (ρ1:=[some (scr ns),some (.lst (town++[.int 0])),some (.int 6),some (.int wide),some (.int (1+r)),none,none,none,none]) (by simp [qH,jT,g1,vD])).trans ?_
  refine (jL (ρ1:=[some (scr ns),some (.lst t2),some (.int 6),some (.int wide),some (.int (1+r)),some (Ld p q),none,none,none]) (by simp [qH,jT,g2])).trans ?_
  refine (jL (ρ1:=[some (scr ns),some (.lst t3),some (.int 6),some (.int wide),some (.int (1+r)),some (Ld p q),some (Wd ws),none,none]) (by simp [qH,jT,g3])).trans ?_
  refine (jL (ρ1:=[some (scr ns),some (.lst (t3++[.int 0])),some (.int 6),some (.int wide),some (.int (1+r)),some (Ld p q),some (Wd ws),some (.lst (more.map D.str)),none]) (by simp [qH,jT,g4,z3])).trans ?_
  refine (jL (ρ1:=[some (scr ns),some (.lst (t3++[.int 0])),some (.int 6),some (.int wide),some (.int (1+r)),some (Ld p q),some (Wd ws),some (.lst (more.map D.str)),some (.lst (L1.map D.str))]) (by simp [qH,jT,g5,e,-cI,e2])).trans ?_
  have hz:(L1.map D.str).length<=sizeLine:=by rw [aG]; exact jy (by omega)
  have ec:jB [1] 1 [0,1,4] (wt (qg 8)) (gNm 0) ftT (yk (qe (qg 0) (qe (qC [.vl,.sl 2,.vl] kB (qe (qg 1) (kE (qe (qg 3) qF)))) qF))) [some (scr ns),some (.lst (t3++[.int 0])),some (.int 6),some (.int wide),some (.int (1+r)),some (Ld p q),some (Wd ws),some (.lst (more.map D.str)),some (.lst (L1.map D.str))]
    = .ok (.lst (prL es),[some (scr ns),some (.lst t5),some (.int 6),some (.int wide),some (.int (1+r)),some (Ld p q),some (Wd ws),some (.lst (more.map D.str)),some (.lst (L1.map D.str))]):=by
   unfold jB
   rw [show wt (qg 8) [some (scr ns),some (.lst (t3++[.int 0])),some (.int 6),some (.int wide),some (.int (1+r)),some (Ld p q),some (Wd ws),some (.lst (more.map D.str)),some (.lst (L1.map D.str))]=.ok (L1.map D.str,[some (scr ns),some (.lst (t3++[.int 0])),some (.int 6),some (.int wide),some (.int (1+r)),some (Ld p q),some (Wd ws),some (.lst (more.map D.str)),some (.lst (L1.map D.str))]) from rfl]
   simp only [qG]
   rw [if_pos hz,show kH 1 [0,1,4] [some (scr ns),some (.lst (t3++[.int 0])),some (.int 6),some (.int wide),some (.int (1+r)),some (Ld p q),some (Wd ws),some (.lst (more.map D.str)),some (.lst (L1.map D.str))]=[none,some (scr ns),some (.lst (t3++[.int 0])),some (.int (1+r))] from rfl,g7]
   simp [jA]
  rw [vG,vX]
  simp only [qY,qJ,aj,ah,qG,kJ,ec,uX,jH,ji]
  simp [z4,qB]
def qfX (ca:Str->Addr):Prop:=∀ x∈CS,∀ y∈CS,ca x=ca y->x=y
variable {i:Nat} {c:Addr}
@[simp] theorem qeG {f:Str}:Xv c i f fe ρ=(fe ρ).bind fun p=>match p.2[i]? with
 | some (some (.ins k fs))=>if k=c/\fs.length < 1000 then .ok (.nx,p.2.set i (some (.ins k (vj f p.1 fs)))) else .bad
 | _=>.bad:=rfl
noncomputable def zG (ds:List D) (l:List (Str×Int)):List D:=l.foldl (fun ds x=>ds.set x.2.toNat (.str x.1)) ds
theorem Kb:∀ (l:List (Str×Int)) (ds:List D),(zG ds l).length=ds.length
 | [],ds=>rfl
 | x::l,ds=>by
  show (zG (ds.set x.2.toNat (.str x.1)) l).length=_
  rw [Kb l,bn]
theorem Zf (a0 a1 a2 a3 a4 a5:Option D):∀ (l:List (Str×Int)) (ds:List D) (x y:Option D),(∀ e∈l,0<=e.2/\e.2 < ds.length) ->
  ∃ x' y',zT (uD 2 (ja (gNm 6) (ja (gNm 7) uC))) (qg 6) (qg 7) (l.map fun e=>.tup [.str e.1,.int e.2]) ds [a0,a1,a2,a3,a4,a5,x,y]=.ok (zG ds l,[a0,a1,a2,a3,a4,a5,x',y'])
 | [],ds,x,y,_=>⟨x,y,rfl⟩
 | e::l,ds,x,y,h=>by
  obtain ⟨x',y',ih⟩:=Zf a0 a1 a2 a3 a4 a5 l (ds.set e.2.toNat (.str e.1)) (some (.str e.1)) (some (.int e.2)) fun e' he'=>by rw [bn]; exact h e' (af _ he')
  refine ⟨x',y',?_⟩
  obtain ⟨h0,h1⟩:=h e (aw ..)
  have hx:ixN ds.length e.2=some e.2.toNat:=by
   unfold ixN
   rw [if_pos h0,if_pos h1]
  rw [aA]
  simp only [zT,uD,ja,uC,ae,aq,Nat.reduceAdd,if_true,qdJ,Nat.reduceLT,aM,aN,qG,qJ,aj,ah,hx]
  exact ih
noncomputable def qcK (l:List (Str×Int)) (s:List (Str×Str)) (r:Int):List Int:=s.map fun x=>(xb l x.1+xb l x.2) % r
theorem VE (l:List (Str×Int)) (s:List (Str×Str)) (r:Int):qa2 l s r=(qcK l s r).map D.int:=by simp [qa2,qcK]
theorem zH:∀ l:List Int,uZ (l.map D.int)=some l
 | []=>rfl
 | x::l=>by simp [uZ,zH l]
noncomputable def WJ (l:List Int):Nat:=(l.foldl wu []).length
theorem Zg (x:Str) (i:Int):qeF (.tup [.str x,.int i]):=by
 refine ⟨trivial,fun xs e y hy=>?_⟩
 cases e
 rcases ac.mp hy with rfl | hy
 ·trivial
 ·rw [aC.mp hy]
  trivial
theorem WK (l:List (Str×Int)):∀ d∈prL l,qeF d:=fun d hd=>by
 obtain ⟨x,_,rfl⟩:=aH.mp hd
 exact Zg _ _
theorem Made.hr (M:Made ws p q r l):Vx 1 99 (.int r)=true:=by
 have:=M.r0
 have:=M.r1
 simp [Vx]
 omega
theorem qct (M:Made ws p q r l):jS [Wd ws,Ld p q,.int r,.tup (prL l)]=.ok (.tup ((qcK l (qL ws p q) r).map D.int),[.non,.non,.non,.non]):=by
 have hw:=(xa (WK l) (by simp [prL]; have:=M.len; omega) r).2 l rfl M.ok
 rw [M.rise] at hw
 have:=zF M.hw M.hl M.hr M.ok M.rise hw
 rw [if_pos (aZ.mpr fun x hx=>decide_eq_true (M.all x hx)),VE] at this
 exact this
theorem Made.ne (M:Made ws p q r l):l≠[]:=fun z=>by
 have h:=qeb M.hw p q
 obtain ⟨x,hx⟩:=List.exists_mem_of_ne_nil _ h
 have:=M.all x hx
 rw [z] at this
 cases this
theorem qec (M:Made ws p q r l):∀ k∈qcK l (qL ws p q) r,0<=k/\k < r:=fun k hk=>by
 obtain ⟨x,_,rfl⟩:=aH.mp hk
 have:=M.r0
 exact ⟨eJ _ (by omega),dR _ (by omega)⟩
variable {ks:List Int}
theorem addZ_mem {x y:Int}:y∈wu ks x↔y∈ks\/y=x:=by
 unfold wu
 split
 ·rename_i h
  constructor
  ·exact .inl
  ·rintro (h' | rfl)
   ·exact h'
   ·exact h
 ·simp
theorem qai:∀ (l ks:List Int),(l.foldl wu ks).length<=ks.length+l.length:=zf
theorem WL:∀ (l ks:List Int),(l.foldl wu ks).length=ks.length+l.length->l.Nodup/\∀ x∈l,x∉ks
 | [],ks,_=>⟨bJ,by simp⟩
 | x::l,ks,h=>by
  rw [bO,ae] at h
  have h1:=qai l (wu ks x)
  have h2:=Wv ks x
  have hx:x∉ks:=fun z=>by
   have:wu ks x=ks:=if_pos z
   rw [this] at h1 h
   omega
  have e:wu ks x=ks++[x]:=if_neg hx
  obtain ⟨n,m⟩:=WL l (wu ks x) (by rw [e] at h ⊢; simp at h ⊢; omega)
  refine ⟨aS.mpr ⟨fun z=>m x z (addZ_mem.mpr (.inr rfl)),n⟩,fun y hy=>?_⟩
  rcases ac.mp hy with rfl | hy
  ·exact hx
  ·exact fun z=>m y hy (addZ_mem.mpr (.inl z))
theorem Ux (h:WJ ks=ks.length):ks.Nodup:=(WL ks [] (by unfold WJ at h; simp; exact h)).1
theorem qaj (k:Int):WJ [k]=1:=rfl
noncomputable def num (l:List (Str×Int)) (p q r:Int) (w:Str):Int:=(xb l (zC w p)+xb l (zC w q)) % r
theorem QH (l:List (Str×Int)) (ws:List Str) (p q r:Int):qcK l (qL ws p q) r=ws.map (num l p q r):=by simp [qcK,qL,num]
theorem gG (ds:List D) (x:Str×Int) (l:List (Str×Int)):zG ds (x::l)=zG (ds.set x.2.toNat (.str x.1)) l:=rfl
theorem gH:∀ (l:List (Str×Int)) (ds:List D) (j:Nat),(∀ e∈l,e.2.toNat≠j)->(zG ds l)[j]?=ds[j]?
 | [],ds,j,_=>rfl
 | x::l,ds,j,h=>by
  rw [gG,gH l _ j fun e he=>h e (af _ he)]
  exact ad (h x (aw ..))
theorem Kc:∀ (l:List (Str×Int)) (ds:List D),(∀ e∈l,0<=e.2/\e.2 < ds.length)->(l.map (·.2)).Nodup->∀ e∈l,(zG ds l)[e.2.toNat]?=some (.str e.1)
 | [],_,_,_,_,h=>by cases h
 | x::l,ds,hb,nd,e,he=>by
  rw [aA,aS] at nd
  have hb':∀ e∈l,0<=e.2/\e.2 < (ds.set x.2.toNat (.str x.1)).length:=fun e he=>by rw [bn]; exact hb e (af _ he)
  rw [gG]
  rcases ac.mp he with rfl | he
  ·rw [gH l _ _ fun e' he' z=>?_]
   ·obtain ⟨h0,h1⟩:=hb e (aw ..)
    exact aF (by omega)
   ·obtain ⟨a0,_⟩:=hb e (aw ..)
    obtain ⟨b0,_⟩:=hb e' (af _ he')
    have:e'.2=e.2:=by omega
    exact nd.1 (by rw [<-this]; exact aH.mpr ⟨e',he',rfl⟩)
  ·exact Kc l _ hb' nd.2 e he
def NS (d:D):Prop:=d=.non\/∃ x,d=.str x
theorem WM:∀ (l:List (Str×Int)) (ds:List D),(∀ d∈ds,NS d)->∀ d∈zG ds l,NS d
 | [],ds,h=>h
 | x::l,ds,h=>WM l _ fun d hd=>by
  rcases List.mem_or_eq_of_mem_set hd with hd | rfl
  ·exact h d hd
  ·exact .inr ⟨_,rfl⟩
theorem qed (k:Nat) (h:NS d):eqN k d d=some true:=by
 rcases h with rfl | ⟨x,rfl⟩
 ·cases k <;> rfl
 ·cases k <;> simp [eqN,eqS]
theorem qcu (k:Nat) (h:NS d) (w:Str):∃ v,eqN k d (.str w)=some v/\(d=.str w->v=true):=by
 rcases h with rfl | ⟨x,rfl⟩
 ·exact ⟨false,by cases k <;> rfl,fun z=>by cases z⟩
 ·refine ⟨decide (x=w),by cases k <;> simp [eqN,eqS] <;> rfl,fun z=>by cases z; simp⟩
theorem Zh (w:Str):∀ ds:List D,(∀ d∈ds,NS d)->∃ v,zL 7 (.str w) ds=some v
 | [],_=>⟨_,rfl⟩
 | d::ds,h=>by
  obtain ⟨v,ih⟩:=Zh w ds fun d' hd=>h d' (af _ hd)
  obtain ⟨u,e,_⟩:=qcu 7 (h d (aw ..)) w
  exact ⟨_,by simp only [zL,e,ih,fk]; rfl⟩
theorem qak (h:∀ d∈ds,NS d) (hm:D.str w∈ds):∃ j:Nat,yQ (.lst ds) (.str w)=.ok (.int j):=by
 obtain ⟨v,e⟩:=Zh w ds h
 have:∃ j,(ds.map fun d=>eqN 7 d (.str w) == some true).findIdx? id=some j:=by
  cases q:(ds.map fun d=>eqN 7 d (.str w) == some true).findIdx? id with
  | some j=>exact ⟨j,rfl⟩
  | none=>
   rw [dF] at q
   have:=q (eqN 7 (.str w) (.str w) == some true) (aH.mpr ⟨_,hm,rfl⟩)
   rw [qed 7 (.inr ⟨w,rfl⟩)] at this
   cases this
 obtain ⟨j,hj⟩:=this
 exact ⟨j,by simp only [yQ,e,hj]⟩
abbrev qcv:Sl->Out (Fl×Sl):=(jm (wm 8 (qC [.vl,.vl,.vl,.vl] XI (qe (d2 vD (qg 2) (yk (qe (qg 3) qF))) (qe (qg 5) (qe (qg 6) (qe (d1 zR (qg 7)) qF))))))
  (sIf (qR (d2 eqD (d1 kK (qg 8)) (d1 kG (qg 8)))) (wm 2 (d2 vD (qg 2) (yk (qe (qg 3) qF)))) jF))
structure Kp (p q r:Int) (l:List (Str×Int)) (ks:List Str):Prop where
 nd:ks.Nodup
 wd:∀ w∈ks,Kj w
 le:ks.length<=6
 key:∀ w∈ks,zC w p∈jo l/\zC w q∈jo l
theorem Kp.sub {b:List Str} (h:Kp p q r l b) (s:a.Sublist b):Kp p q r l a:=⟨h.nd.sublist s,fun w hw=>h.wd w (s.subset hw),bW s.length_le h.le,fun w hw=>h.key w (s.subset hw)⟩
theorem Kp.words (h:Kp p q r l a) (n:a≠[]):jJ a:=⟨eN.mpr n,h.le,h.nd,h.wd⟩
theorem Kp.all (h:Kp p q r l a):∀ x∈LS (qL a p q),x∈jo l:=fun x hx=>by
 obtain ⟨y,hy,e⟩:=mem_LS.mp hx
 obtain ⟨w,hw,rfl⟩:=aH.mp hy
 rcases e with rfl | rfl
 ·exact (h.key w hw).1
 ·exact (h.key w hw).2
theorem qal (hl:WQ p q) (hr:0 < r) (hd:zR (.tup (prL l))=.ok (.dct (bk l))) {kept:List Str} (h:Kp p q r l (kept++[w])) (a b c W:Option D) :
  ∃ y',qcv [a,b,some (.tup (kept.map D.str)),some (.str w),W,some (Ld p q),some (.int r),some (.tup (prL l)),c]=.ok (.nx,[a,b,some (.tup ((if WJ ((kept++[w]).map (num l p q r))=(kept++[w]).length then kept++[w] else kept).map D.str)),some (.str w),W,some (Ld p q),some (.int r),some (.tup (prL l)),y']):=by
 have hb:=Ze (h.words (by simp)) hl hr h.all
 rw [VE,QH] at hb
 have hz:kept.length+1<=sizeLine:=jy (by have:=h.le; simp at this; omega)
 have z1:1<=sizeLine:=jy (by omega)
 have e1:vD (.tup (kept.map D.str)) (.tup [.str w])=.ok (Wd (kept++[w])):=by
  simp [vD,hz]
 have hlen:((kept++[w]).map (num l p q r)).length=(kept++[w]).length:=by simp
 have e2:kK (.tup (((kept++[w]).map (num l p q r)).map D.int))=.ok (.int (WJ ((kept++[w]).map (num l p q r)))):=by
  have h4:((kept++[w]).map (num l p q r)).length < 4000:=by rw [hlen]; have:=h.le; omega
  simp only [kK,JG,zH,if_pos h4,WJ]
 have e3:kG (.tup (((kept++[w]).map (num l p q r)).map D.int))=.ok (.int ((kept++[w]).length:Nat)):=by
  simp only [kG,aG]
 generalize hk:(kept++[w]).map (num l p q r)=ks at hb e2 e3
 refine ⟨some (.tup (ks.map D.int)),?_⟩
 have g1:(wm 8 (qC [.vl,.vl,.vl,.vl] XI (qe (d2 vD (qg 2) (yk (qe (qg 3) qF))) (qe (qg 5) (qe (qg 6) (qe (d1 zR (qg 7)) qF)))))) [a,b,some (.tup (kept.map D.str)),some (.str w),W,some (Ld p q),some (.int r),some (.tup (prL l)),c]
   = .ok (.nx,[a,b,some (.tup (kept.map D.str)),some (.str w),W,some (Ld p q),some (.int r),some (.tup (prL l)),some (.tup (ks.map D.int))]):=by
  simp only [wG,uY,qY,vi,qJ,aj,ah,qG,vX,ji,ae,aq,ei,if_pos z1,e1,jH,kJ,hd,qH,dN,hb,xu,jT,Nat.reduceAdd,Nat.reduceLT,if_true,aM,aN]
 unfold qcv
 rw [Qa,g1]
 simp only [qG]
 by_cases hc:WJ ks=(kept++[w]).length
 ·have hc':(WJ ks:Int)=((kept++[w]).length:Nat):=by rw [hc]
  rw [if_pos hc]
  simp only [yP,jx,vi,kJ,qJ,aj,ah,qG,e2,e3,jH,eqD,eqN,eqS,hc',beq_self_eq_true,KL,if_true,wG,vX,qY,ji,ae,aq,ei,if_pos z1,e1,Nat.reduceAdd,Nat.reduceLT,aM,aN]
 ·have hc':((WJ ks:Int) == (((kept++[w]).length:Nat):Int))=false:=by
   rw [beq_eq_false_iff_ne]
   intro z
   exact hc (by omega)
  rw [if_neg hc]
  simp only [yP,jx,vi,kJ,qJ,aj,ah,qG,e2,e3,jH,eqD,eqN,eqS,hc',KL,ba,if_false,vY]
theorem QI {g:D->Sl->Out Sl} {fb:Sl->Out (Fl×Sl)} {ρ2:Sl} (h1:g d ρ=.ok ρ1) (h2:fb ρ1=.ok (.nx,ρ2)):xo g fb (d::ds) ρ=xo g fb ds ρ2:=by simp [xo,h1,h2]
theorem zI (hl:WQ p q) (hr:0 < r) (hd:zR (.tup (prL l))=.ok (.dct (bk l))) (a b W:Option D):∀ (rest kept:List Str) (x c:Option D),Kp p q r l (kept++rest)->(kept.map (num l p q r)).Nodup->(kept≠[]\/rest≠[]) ->
  ∃ kept' x' c',kept'≠[]/\Kp p q r l kept'/\(kept'.map (num l p q r)).Nodup/\xo (gNm 3) qcv (rest.map D.str) [a,b,some (.tup (kept.map D.str)),x,W,some (Ld p q),some (.int r),some (.tup (prL l)),c]=.ok (.nx,[a,b,some (.tup (kept'.map D.str)),x',W,some (Ld p q),some (.int r),some (.tup (prL l)),c'])
 | [],kept,x,c,h,hn,ne=>⟨kept,x,c,ne.resolve_right (by simp),by simpa using h,hn,rfl⟩
 | w::rest,kept,x,c,h,hn,ne=>by
  have hk1:Kp p q r l (kept++[w]):=h.sub (by rw [show kept++w::rest=(kept++[w])++rest by simp]; exact List.sublist_append_left ..)
  obtain ⟨y',e⟩:=qal hl hr hd hk1 a b c W
  have g0:gNm 3 (.str w) [a,b,some (.tup (kept.map D.str)),x,W,some (Ld p q),some (.int r),some (.tup (prL l)),c]=.ok [a,b,some (.tup (kept.map D.str)),some (.str w),W,some (Ld p q),some (.int r),some (.tup (prL l)),c]:=rfl
  by_cases hc:WJ ((kept++[w]).map (num l p q r))=(kept++[w]).length
  ·rw [if_pos hc] at e
   obtain ⟨k',x',c',i1,i2,i3,i4⟩:=zI hl hr hd a b W rest (kept++[w]) (some (.str w)) y' (by simpa using h) (Ux (by rw [hc]; simp)) (.inl (by simp))
   exact ⟨k',x',c',i1,i2,i3,by rw [aA,QI g0 e,i4]⟩
  ·rw [if_neg hc] at e
   have hne:kept≠[]:=fun z=>by
    subst z
    exact hc (qaj _)
   obtain ⟨k',x',c',i1,i2,i3,i4⟩:=zI hl hr hd a b W rest kept (some (.str w)) y' (h.sub (List.Sublist.append_left (List.sublist_cons_self w rest) kept)) hn (.inl hne)
   exact ⟨k',x',c',i1,i2,i3,by rw [aA,QI g0 e,i4]⟩
theorem qcw (ns:List Int) (town:List D) (ht:town.length < 500):∃ ws p q r l town',Made ws p q r l/\(ws.map (num l p q r)).Nodup/\town'.length<=town.length+80/\Vt [scr ns,.lst town]=.ok (.tup [Wd ws,Ld p q,.int r,.tup (prL l)],[.non,.lst town']):=by
 obtain ⟨ws,p,q,r,l,t1,M,ht1,g1⟩:=qcs ns town ht (wide:=20) (by omega) (by omega)
 have hr:=M.r0
 have hd:=Zc (gE M.rise)
 have hK:Kp p q r l ws:=⟨M.hw.2.2.1,M.hw.2.2.2,M.hw.2.1,fun w hw=>⟨M.all _ (mem_LS.mpr ⟨(zC w p,zC w q),aH.mpr ⟨w,hw,rfl⟩,.inl rfl⟩),M.all _ (mem_LS.mpr ⟨(zC w p,zC w q),aH.mpr ⟨w,hw,rfl⟩,.inr rfl⟩)⟩⟩
 obtain ⟨ks,x',c',k1,k2,k3,k4⟩:=zI (r:=r) M.hl (by omega) hd (some (scr ns)) (some (.lst t1)) (some (Wd ws)) ws [] none none (by simpa using hK) (by simp) (.inr (fun z=>by have:=M.hw.1; rw [z] at this; simp at this))
 refine ⟨ks,p,q,r,l,t1,⟨k2.words k1,M.hl,M.r0,M.r1,M.ok,M.rise,k2.all,M.len⟩,k3,ht1,?_⟩
 refine runD_ap.trans ?_
 have z0:0<=sizeLine:=bt _
 have z4:4<=sizeLine:=jy (by omega)
 unfold Vs
 simp only [qv,aA,aT,ae,aq,Nat.reduceAdd,Nat.reduceSub,au,bp,bq]
 refine (jL (ρ1:=[some (scr ns),some (.lst t1),none,none,some (Wd ws),some (Ld p q),some (.int r),some (.tup (prL l)),none]) (by simp [qH,jT,g1,uD,ja,uC])).trans ?_
 refine (jL (ρ1:=[some (scr ns),some (.lst t1),some (.tup []),none,some (Wd ws),some (Ld p q),some (.int r),some (.tup (prL l)),none]) (by simp [z0])).trans ?_
 refine (jL (ρ1:=[some (scr ns),some (.lst t1),some (.tup (ks.map D.str)),x',some (Wd ws),some (Ld p q),some (.int r),some (.tup (prL l)),c']) ?_).trans ?_
 ·rw [Xi]
  simp only [KN,qJ,aj,ah,qG,ku]
  exact k4
 ·simp [z4,qB]
theorem kD {f g:Sl->Out (Fl×Sl)} (h:f ρ=.ok (.nx,ρ1)):jm f g ρ=g ρ1:=by
 rw [Qa,h]
 rfl
theorem Zi {c:Addr} {i:Nat} {fl:Str} {fe:Sl->Out (D×Sl)} {fi:Sl->Out (List D×Sl)} {g:D->Sl->Out Sl} {fw fx:Sl->Out (D×Sl)} {ρ ρ1 ρ2 ρE:Sl} {ds items dE:List D} {fs:List (Str×D)}
  (h1:fe ρ=.ok (.lst ds,ρ1)) (h2:ρ1[i]?=some (some (.ins c fs))) (h3:fs.length < 1000) (h4:fi (ρ1.set i none)=.ok (items,ρ2)) (h5:zT g fw fx items ds ρ2=.ok (dE,ρE)) :
  JH c i fl fe fi g fw fx ρ=.ok (.nx,ρE.set i (some (.ins c (vj fl (.lst dE) fs)))):=by
 unfold JH
 simp [h1,h2,h3,h4,h5]
theorem k1:¬(ao "look"=ao "width"):=by decide +kernel
theorem k2:¬(ao "look"=ao "worths"):=by decide +kernel
theorem k3:¬(ao "look"=ao "standing"):=by decide +kernel
theorem k4:¬(ao "look"=ao "asked"):=by decide +kernel
theorem k5:¬(ao "width"=ao "worths"):=by decide +kernel
theorem k6:¬(ao "width"=ao "standing"):=by decide +kernel
theorem k7:¬(ao "width"=ao "asked"):=by decide +kernel
theorem k8:¬(ao "worths"=ao "standing"):=by decide +kernel
theorem k9:¬(ao "worths"=ao "asked"):=by decide +kernel
theorem k10:¬(ao "standing"=ao "asked"):=by decide +kernel
abbrev bk4 (lk r t:D) (sd:List D):List (Str×D):=[("look",lk),("width",r),("worths",t),("standing",.lst sd)]
abbrev bk5 (lk r t:D) (sd:List D) (b:Addr):List (Str×D):=[("look",lk),("width",r),("worths",t),("standing",.lst sd),("asked",.raw (.ref b))]
variable {b:Addr} {lk:D} {sd:List D}
theorem qfY {r t:D}:vj "asked" (.raw (.ref b)) (bk4 lk r t sd)=bk5 lk r t sd b:=by
 simp [vj,k4,k7,k9,k10]
theorem qcx {r t:D}:(bk5 lk r t sd b).lookup (ao "look")=some lk:=by
 simp [cf]
theorem qam {r t:D}:(bk5 lk r t sd b).lookup (ao "width")=some r:=by
 have e:((ao "width") == (ao "look"))=false:=by decide +kernel
 simp [cf,e]
theorem Zj {r t:D}:(bk5 lk r t sd b).lookup (ao "worths")=some t:=by
 have e:((ao "worths") == (ao "look"))=false:=by decide +kernel
 have e2:((ao "worths") == (ao "width"))=false:=by decide +kernel
 simp [cf,e,e2]
theorem zJ {r t:D}:(bk5 lk r t sd b).lookup (ao "standing")=some (D.lst sd):=by
 have e:((ao "standing") == (ao "look"))=false:=by decide +kernel
 have e2:((ao "standing") == (ao "width"))=false:=by decide +kernel
 have e3:((ao "standing") == (ao "worths"))=false:=by decide +kernel
 simp [cf,e,e2,e3]
theorem ul {r t:D}:(bk5 lk r t sd b).lookup (ao "asked")=some (D.raw (.ref b)):=by
 have e:((ao "asked") == (ao "look"))=false:=by decide +kernel
 have e2:((ao "asked") == (ao "width"))=false:=by decide +kernel
 have e3:((ao "asked") == (ao "worths"))=false:=by decide +kernel
 have e4:((ao "asked") == (ao "standing"))=false:=by decide +kernel
 simp [cf,e,e2,e3,e4]
theorem qan {r t:D} {n:Str} (h:n∉(["look", "width", "worths", "standing", "asked"]:List Str)):((bk5 lk r t sd b).lookup n).isNone=true:=by
 simp only [ac,bo,or_false,not_or] at h
 obtain ⟨h1,h2,h3,h4,h5⟩:=h
 simp [cf,beq_eq_false_iff_ne.mpr h1,beq_eq_false_iff_ne.mpr h2,beq_eq_false_iff_ne.mpr h3,beq_eq_false_iff_ne.mpr h4,beq_eq_false_iff_ne.mpr h5]
theorem f5 {fs:List (Str×D)} {f:Str} (h:fs.lookup f=some d):zS c f (.ins c fs)=.ok d:=by
 simp [zS,h]
theorem qee (h0:0<=r) (h1:r<=99):qdL (.lst [.non]) (.int r)=.ok (.lst (au r.toNat .non)):=by
 have:(0<=r/\r<=100000)/\1 * r.toNat<=1000000:=by omega
 simp only [qdL,ae,aq,ei,if_pos this]
 congr 2
 induction r.toNat with
 | zero=>rfl
 | succ n ih=>rw [bM,cb,ih,bM]; rfl
variable {ca:Str->Addr}
section
abbrev sdL (ws:List Str) (p q r:Int) (l:List (Str×Int)):List D:=zG (au r.toNat .non) (ws.zip (ws.map (num l p q r)))
theorem qef (ws:List Str) (ks:List Int):qaM (ws.map D.str) (ks.map D.int)=(ws.zip ks).map fun e=>.tup [.str e.1,.int e.2]:=by
 unfold qaM
 rw [List.zipWith_map,aV,List.map_zipWith]
theorem qa3 (M:Made ws p q r l):∀ e∈ws.zip (ws.map (num l p q r)),0<=e.2/\e.2 < ((au r.toNat D.non).length:Int):=fun e he=>by
 have hb:=qec M
 rw [QH] at hb
 have:=hb e.2 (dL he).2
 rw [cE]
 have:=M.r0
 omega
theorem Zk (M:Made ws p q r l) (hn:(ws.map (num l p q r)).Nodup):ju ca [Wd ws,Ld p q,.int r,.tup (prL l)]=.ok (bk4 (Ld p q) (.int r) (.tup (prL l)) (sdL ws p q r l)):=by
 have h:=qct M
 rw [QH] at h
 have hlen:(ws.map (num l p q r)).length<=6:=by rw [aG]; exact M.hw.2.1
 have hz:=qa3 M
 have hset:¬(WJ (ws.map (num l p q r)):Int) < ((ws.map (num l p q r)).length:Nat):=by
  have:∀ (l ks:List Int),l.Nodup->(∀ x∈l,x∉ks)->(l.foldl wu ks).length=ks.length+l.length:=by
   intro l
   induction l with
   | nil=>intro ks _ _; simp
   | cons x l ih=>
    intro ks nd hd
    have e:wu ks x=ks++[x]:=if_neg (hd x (aw ..))
    rw [bO,e,ih _ (aS.mp nd).2 fun y hy z=>?_]
    ·simp; omega
    ·rcases bc.mp z with z | z
     ·exact hd y (af _ hy) z
     ·exact (aS.mp nd).1 (by rw [<-aC.mp z]; exact hy)
  have:=this _ [] hn (by simp)
  unfold WJ
  simp only [aq,ei] at this
  omega
 have h4:(ws.map (num l p q r)).length < 4000:=by omega
 have e1:kK (.tup ((ws.map (num l p q r)).map D.int))=.ok (.int (WJ (ws.map (num l p q r)))):=by simp only [kK,JG,zH,if_pos h4,WJ]
 have e2:kG (.tup ((ws.map (num l p q r)).map D.int))=.ok (.int ((ws.map (num l p q r)).length:Nat)):=by simp only [kG,aG]
 obtain ⟨x',y',hf⟩:=Zf none (some (Wd ws)) (some (Ld p q)) (some (.int r)) (some (.tup (prL l))) (some (.tup ((ws.map (num l p q r)).map D.int))) (ws.zip (ws.map (num l p q r))) (au r.toNat .non) none none hz
 have zz:=qef ws (ws.map (num l p q r))
 have m:=qee (r:=r) (by have:=M.r0; omega) (by have:=M.r1; omega)
 have z1:1<=sizeLine:=jy (by omega)
 generalize hk:ws.map (num l p q r)=ks at h hset e1 e2 hf zz
 have go:vc ca (qv vb (.ins (ca "Book") []::[Wd ws,Ld p q,.int r,.tup (prL l)]))=.ok (.nx,[some (.ins (ca "Book") (bk4 (Ld p q) (.int r) (.tup (prL l)) (zG (au r.toNat .non) (ws.zip ks)))),some (Wd ws),some (Ld p q),some (.int r),some (.tup (prL l)),some (.tup (ks.map D.int)),x',y']):=by
  unfold vc
  simp only [qv,aA,aT,ae,aq,Nat.reduceAdd,Nat.reduceSub,au,bp,bq]
  rw [kD (ρ1:=[some (.ins (ca "Book") []),some (Wd ws),some (Ld p q),some (.int r),some (.tup (prL l)),some (.tup (ks.map D.int)),none,none]) (by simp [qH,jT,h]),
   kD (ρ1:=[some (.ins (ca "Book") []),some (Wd ws),some (Ld p q),some (.int r),some (.tup (prL l)),some (.tup (ks.map D.int)),none,none]) (by simp only [yP,jx,vi,kJ,qJ,aj,ah,qG,e1,e2,jH,ltD,decide_eq_false hset,KL,ba,if_false,vY]),
   kD (ρ1:=[some (.ins (ca "Book") [("look",Ld p q)]),some (Wd ws),some (Ld p q),some (.int r),some (.tup (prL l)),some (.tup (ks.map D.int)),none,none]) (by simp [vj]),
   kD (ρ1:=[some (.ins (ca "Book") [("look",Ld p q),("width",.int r)]),some (Wd ws),some (Ld p q),some (.int r),some (.tup (prL l)),some (.tup (ks.map D.int)),none,none]) (by simp [vj,k1]),
   kD (ρ1:=[some (.ins (ca "Book") [("look",Ld p q),("width",.int r),("worths",.tup (prL l))]),some (Wd ws),some (Ld p q),some (.int r),some (.tup (prL l)),some (.tup (ks.map D.int)),none,none]) (by simp [vj,k2,k5]),
   Zi (ds:=au r.toNat .non) (items:=(ws.zip ks).map fun e=>.tup [.str e.1,.int e.2]) (ρ1:=[some (.ins (ca "Book") [("look",Ld p q),("width",.int r),("worths",.tup (prL l))]),some (Wd ws),some (Ld p q),some (.int r),some (.tup (prL l)),some (.tup (ks.map D.int)),none,none])
    (fs:=[("look",Ld p q),("width",.int r),("worths",.tup (prL l))]) (by simp [z1,m]) rfl (by simp) (by simp [qfe,zN,zz]) hf]
  simp [vj,k3,k6,k8]
 show qcJ _ _ _ _=_
 unfold qcJ
 rw [go]
 subst hk
 simp
theorem qcy (hw:w∈ws):(w,num l p q r w)∈ws.zip (ws.map (num l p q r)):=by
 rw [List.zip_map_right]
 refine aH.mpr ⟨(w,w),?_,rfl⟩
 have:∀ (ws:List Str),w∈ws->(w,w)∈ws.zip ws:=by
  intro ws
  induction ws with
  | nil=>intro h; cases h
  | cons a l ih=>
   intro h
   rw [List.zip_cons_cons]
   rcases ac.mp h with rfl | h
   ·exact aw ..
   ·exact af _ (ih h)
 exact this ws hw
theorem qeg (M:Made ws p q r l) (hn:(ws.map (num l p q r)).Nodup) (hw:w∈ws):(sdL ws p q r l)[(num l p q r w).toNat]?=some (.str w):=by
 refine Kc _ _ (qa3 M) ?_ (w,num l p q r w) (qcy hw)
 rw [List.map_snd_zip (by simp)]
 exact hn
theorem qeh:∀ d∈sdL ws p q r l,NS d:=WM _ _ fun d hd=>.inl (List.eq_of_mem_replicate hd)
theorem QJ (M:Made ws p q r l) (hw:w∈ws):Made [w] p q r l:=
 ⟨⟨by simp,by simp,by simp,fun x hx=>by rw [aC.mp hx]; exact M.hw.2.2.2 w hw⟩,M.hl,M.r0,M.r1,M.ok,M.rise,fun x hx=>by
  obtain ⟨y,hy,e⟩:=mem_LS.mp hx
  refine M.all x (mem_LS.mpr ⟨y,?_,e⟩)
  obtain ⟨u,hu,rfl⟩:=aH.mp hy
  rw [aC.mp hu]
  exact aH.mpr ⟨w,hw,rfl⟩,M.len⟩
abbrev bkD (ca:Str->Addr) (ws:List Str) (p q r:Int) (l:List (Str×Int)) (b:Addr):D:=.ins (ca "Book") (bk5 (Ld p q) (.int r) (.tup (prL l)) (sdL ws p q r l) b)
end
noncomputable def eqB:D->Str->Bool
 | .str x,w=>decide (x=w)
 | _,_=>false
noncomputable def noB:D->Bool
 | .non=>true
 | _=>false
theorem qa4 (h:NS d) (w:Str):eqD d (.str w)=.ok (.bl (eqB d w)):=by
 rcases h with rfl | ⟨x,rfl⟩
 ·rfl
 ·simp [eqD,eqN,eqS,eqB] <;> rfl
theorem qfv (h:NS d):qev d .non=.ok (.bl (noB d)):=by
 rcases h with rfl | ⟨x,rfl⟩ <;> rfl
theorem Kd:∀ (l:List (Str×Int)) (ds:List D),∀ d∈zG ds l,d∈ds\/∃ e∈l,d=.str e.1
 | [],ds,d,h=>.inl h
 | x::l,ds,d,h=>by
  rcases Kd l _ d h with h | ⟨e,he,r⟩
  ·rcases List.mem_or_eq_of_mem_set h with h | rfl
   ·exact .inl h
   ·exact .inr ⟨x,aw ..,rfl⟩
  ·exact .inr ⟨e,af _ he,r⟩
noncomputable def fnd (ws:List Str) (p q r:Int) (l:List (Str×Int)) (w:Str):D:=if (LS (qL [w] p q)).all (fun x=>decide (x∈jo l))=true then ((sdL ws p q r l)[(num l p q r w).toNat]?).getD .non else .non
variable {es:List D}
section
theorem qa5:fnd ws p q r l w=.non\/fnd ws p q r l w∈sdL ws p q r l:=by
 unfold fnd
 split
 ·cases e:(sdL ws p q r l)[(num l p q r w).toNat]? with
  | none=>exact .inl rfl
  | some d=>exact .inr (dl e)
 ·exact .inl rfl
theorem qa6:NS (fnd ws p q r l w):=by
 rcases qa5 (ws:=ws) (p:=p) (q:=q) (r:=r) (l:=l) (w:=w) with h | h
 ·exact .inl h
 ·exact qeh _ h
theorem qei (M:Made ws p q r l) (hn:(ws.map (num l p q r)).Nodup) (hw:w∈ws):fnd ws p q r l w=.str w:=by
 unfold fnd
 rw [if_pos (aZ.mpr fun x hx=>decide_eq_true ((QJ M hw).all x hx)),qeg M hn hw]
 rfl
theorem Zl (M:Made ws p q r l) (hn:(ws.map (num l p q r)).Nodup):eqB (fnd ws p q r l w) w=decide (w∈ws):=by
 by_cases hw:w∈ws
 ·rw [qei M hn hw]
  simp [eqB,hw]
 ·rw [decide_eq_false hw]
  cases e:eqB (fnd ws p q r l w) w with
  | false=>rfl
  | true=>
   rcases qa5 (ws:=ws) (p:=p) (q:=q) (r:=r) (l:=l) (w:=w) with h | h
   ·rw [h] at e; cases e
   ·rcases Kd _ _ _ h with h | ⟨x,hx,h⟩
    ·rw [List.eq_of_mem_replicate h] at e; cases e
    ·rw [h] at e
     have:x.1=w:=by simpa [eqB] using e
     exact absurd (by rw [<-this]; exact (dL hx).1) hw
theorem Zm (M:Made ws p q r l) (hw:Kj w):kz ca [bkD ca ws p q r l b,.str w]=.ok (fnd ws p q r l w,[.non,.non]):=by
 have hW:jJ [w]:=⟨by simp,by simp,by simp,fun x hx=>by rw [aC.mp hx]; exact hw⟩
 have hiw:=(xa (WK l) (by simp [prL]; have:=M.len; omega) r).2 l rfl M.ok
 rw [M.rise] at hiw
 have h:=zF hW M.hl M.hr M.ok M.rise hiw
 have hlen:(sdL ws p q r l).length=r.toNat:=by rw [Kb,cE]
 have e1:=f5 (c:=ca "Book") (qcx (lk:=Ld p q) (r:=.int r) (t:=.tup (prL l)) (sd:=sdL ws p q r l) (b:=b))
 have e2:=f5 (c:=ca "Book") (qam (lk:=Ld p q) (r:=.int r) (t:=.tup (prL l)) (sd:=sdL ws p q r l) (b:=b))
 have e3:=f5 (c:=ca "Book") (Zj (lk:=Ld p q) (r:=.int r) (t:=.tup (prL l)) (sd:=sdL ws p q r l) (b:=b))
 have e4:=f5 (c:=ca "Book") (zJ (lk:=Ld p q) (r:=.int r) (t:=.tup (prL l)) (sd:=sdL ws p q r l) (b:=b))
 have z1:1<=sizeLine:=jy (by omega)
 have r0:=M.r0
 have hb:0<=num l p q r w/\num l p q r w < r:=⟨eJ _ (by omega),dR _ (by omega)⟩
 unfold fnd
 by_cases hA:(LS (qL [w] p q)).all (fun x=>decide (x∈jo l))=true
 ·rw [if_pos hA] at h ⊢
  rw [VE,QH] at h
  have hk:(num l p q r w).toNat < (sdL ws p q r l).length:=by omega
  have e5:ixD (.lst (sdL ws p q r l)) (.int (num l p q r w))=.ok (((sdL ws p q r l)[(num l p q r w).toNat]?).getD .non):=by
   have:atI (sdL ws p q r l) (num l p q r w)=some (((sdL ws p q r l)[(num l p q r w).toNat]?).getD .non):=by
    unfold atI ixN
    rw [if_pos hb.1,if_pos (by omega)]
    show (sdL ws p q r l)[(num l p q r w).toNat]?=_
    rw [aJ hk]
    rfl
   simp only [ixD,this]
  unfold bkD
  generalize sdL ws p q r l=sd at e1 e2 e3 e4 e5 ⊢
  refine runD_ap.trans ?_
  have e6:ixD (.tup [.int (num l p q r w)]) (.int 0)=.ok (.int (num l p q r w)):=by simp [ixD,at0]
  unfold jD
  simp only [qv,aA,aT,ae,aq,Nat.reduceAdd,Nat.reduceSub,au,bp,bq]
  refine (jL (ρ1:=[some (.ins (ca "Book") (bk5 (Ld p q) (.int r) (.tup (prL l)) sd b)),some (.str w),some (.int (num l p q r w))]) ?_).trans ?_
  ·simp only [qaI,wG,vi,uY,qY,vX,qJ,aj,ah,qG,ji,ae,aq,ei,if_pos z1,kJ,e1,e2,e3,jH,qH,dN,show jS [.tup [.str w],Ld p q,.int r,.tup (prL l)]=_ from h,xu,jT,ze,aA,aT,e6,Nat.reduceAdd,Nat.reduceLT,if_true,aM,aN]
  ·simp only [vG,vi,kJ,qJ,aj,ah,qG,e4,jH,e5]
   rfl
 ·rw [if_neg hA] at h ⊢
  unfold bkD
  generalize sdL ws p q r l=sd at e1 e2 e3 e4 ⊢
  refine runD_ap.trans ?_
  have hh:qaJ ca ["NoWorths"] (ao "NoWorths")=some (ca "NoWorths"):=by simp [qaJ]
  unfold jD
  simp only [qv,aA,aT,ae,aq,Nat.reduceAdd,Nat.reduceSub,au,bp,bq]
  have g:qaI 3 none (qaJ ca ["NoWorths"]) (wm 2 (d2 ixD (qC [.vl,.vl,.vl,.vl] jS (qe (yk (qe (qg 1) qF)) (qe (d1 (zS (ca "Book") "look") (qg 0)) (qe (d1 (zS (ca "Book") "width") (qg 0)) (qe (d1 (zS (ca "Book") "worths") (qg 0)) qF))))) (dC (.int 0)))) (km (dC .non)) [some (.ins (ca "Book") (bk5 (Ld p q) (.int r) (.tup (prL l)) sd b)),some (.str w),none]=.ok (.rt .non,[some (.ins (ca "Book") (bk5 (Ld p q) (.int r) (.tup (prL l)) sd b)),some (.str w),none]):=by
   unfold qaI
   simp only [wG,vi,uY,qY,vX,qJ,aj,ah,qG,ji,ae,aq,ei,if_pos z1,kJ,e1,e2,e3,jH,qH,dN,show jS [.tup [.str w],Ld p q,.int r,.tup (prL l)]=_ from h]
   simp [KM,jT,hh]
  rw [Qa,g]
  rfl
noncomputable def ans (ws:List Str) (p q r:Int) (l:List (Str×Int)) (w:Str):D:=if eqB (fnd ws p q r l w) w=true then .int ((match yQ (.lst (sdL ws p q r l)) (.str w) with | .ok (.int j)=>j | _=>0)) else .non
theorem qcz (M:Made ws p q r l) (hn:(ws.map (num l p q r)).Nodup) (hw:Kj w) (hes:es.length < 1000):ki ca [bkD ca ws p q r l b,.str w,.at_ b es]=.ok (ans ws p q r l w,[.non,.non,.at_ b (es++[.tup [.str w,fnd ws p q r l w]])]):=by
 have hf:=Zm (ca:=ca) M hw (b:=b)
 have hns:=qa6 (ws:=ws) (p:=p) (q:=q) (r:=r) (l:=l) (w:=w)
 have hq:=qa4 hns w
 have hc:wL [.str w]=.ok (.non,[.non]):=by
  have:=gD hw
  refine runD_ap.trans ?_
  simp [wK,qv,qB,qH,jT,this,yH]
 have hix:eqB (fnd ws p q r l w) w=true->yQ (.lst (sdL ws p q r l)) (.str w)=.ok (.int (match yQ (.lst (sdL ws p q r l)) (.str w) with | .ok (.int j)=>j | _=>0)):=fun h=>by
  rw [Zl M hn] at h
  obtain ⟨j,hj⟩:=qak (w:=w) (qeh (ws:=ws) (p:=p) (q:=q) (r:=r) (l:=l)) (dl (qeg M hn (of_decide_eq_true h)))
  rw [hj]
 have e4:=f5 (c:=ca "Book") (zJ (lk:=Ld p q) (r:=.int r) (t:=.tup (prL l)) (sd:=sdL ws p q r l) (b:=b))
 have e5:=f5 (c:=ca "Book") (ul (lk:=Ld p q) (r:=.int r) (t:=.tup (prL l)) (sd:=sdL ws p q r l) (b:=b))
 have hno:=qan (lk:=Ld p q) (r:=.int r) (t:=.tup (prL l)) (sd:=sdL ws p q r l) (b:=b) (n := "found_for") (by decide +kernel)
 have z2:2<=sizeLine:=jy (by omega)
 have h5:es.length < 100000:=by omega
 unfold ans
 generalize fnd ws p q r l w=fd at hf hns hq hix ⊢
 unfold bkD at hf ⊢
 generalize sdL ws p q r l=sd at hf e4 e5 hno hix ⊢
 refine runD_ap.trans ?_
 unfold yx
 simp only [qv,aA,aT,ae,aq,Nat.reduceAdd,Nat.reduceSub,au,bp,bq]
 generalize hB:(D.ins (ca "Book") (bk5 (Ld p q) (.int r) (.tup (prL l)) sd b))=B at hf e4 e5
 refine (jL (ρ1:=[some B,some (.str w),some (.at_ b es),none]) (by simp [qH,jT,hc])).trans ?_
 refine (jL (ρ1:=[some B,some (.str w),some (.at_ b es),some fd]) ?_).trans ?_
 ·rw [wG]
  unfold Xy
  simp only [qJ,aj,ah,qG]
  rw [<-hB] at hf ⊢
  simp only [hno,and_self,if_true,qY,qJ,aj,ah,qG,ji,hf,ae,aq,Nat.reduceAdd,Nat.reduceLT,aM,aN]
 refine (jL (ρ1:=[some B,some (.str w),some (.at_ b (es++[.tup [.str w,fd]])),some fd]) ?_).trans ?_
 ·rw [Qb]
  unfold qb7 jP
  simp only [kJ,qJ,aj,ah,qG,e5,jH,if_true,vX,qY,ji,ae,aq,Nat.reduceAdd,if_pos z2,if_pos h5,aM,aN]
 ·rw [vG,qdH]
  simp only [jx,vi,qJ,aj,ah,qG,hq,jH,KL]
  cases hE:eqB fd w with
  | false=>
   simp only [ba,if_false,ze,qG]
   rfl
  | true=>
   have hix:=hix hE
   simp only [if_true]
   unfold dM
   simp only [kJ,qJ,aj,ah,qG,e4,jH,qfp,if_true]
   rw [hix]
   simp only [jH,qG]
   rfl
end
theorem qgt (n:Nat):Ji 0 n=(bg n).map fun (j:Nat)=>.int j:=by
 unfold Ji
 simp
theorem iR0 {f:Sl->Out (D×Sl)} {k:Int} (h0:0<=k) (h1:k<=2000) (h:f ρ=.ok (.int k,ρ1)):vW f ρ=.ok (Ji 0 k.toNat,ρ1):=by
 have c1:-(2 ^ 62:Int)<=k/\k < 2 ^ 62:=by omega
 simp [vW,h,-Int.reducePow,c1]
abbrev aD (A:List (Str×D)):List D:=A.map fun x=>.tup [.str x.1,x.2]
noncomputable def Ke (A:List (Str×D)):Nat:=(A.filter fun x=>eqB x.2 x.1).length
noncomputable def yj (A:List (Str×D)):Nat:=(A.filter fun x=>noB x.2).length
noncomputable def cnt (A:List (Str×D)):D:=.tup [.int (Ke A),.int ((A.length:Int) - Ke A - yj A),.int (yj A)]
theorem qej:∀ (A:List (Str×D)),Ke A+yj A<=A.length
 | []=>by simp [Ke,yj]
 | x::A=>by
  have ih:=qej A
  unfold Ke yj at ih ⊢
  rw [List.filter_cons,List.filter_cons,ae]
  have:¬(eqB x.2 x.1=true/\noB x.2=true):=fun ⟨a,b⟩=>by
   cases h:x.2 <;> rw [h] at a b <;> first | cases a | cases b
  by_cases h1:eqB x.2 x.1=true <;> by_cases h2:noB x.2=true
  ·exact absurd ⟨h1,h2⟩ this
  all_goals simp only [h1,h2,if_true,if_false,ae,ba]; omega
variable {A:List (Str×D)}
theorem Zn (h:A.length<=100):qce (cnt A)=.ok (.int A.length):=by
 have:=qej A
 have c:([(Ke A:Int),(A.length:Int) - Ke A - yj A,(yj A:Int)].all fun k=>decide (0<=k/\k<=100000))=true:=by
  simp only [dH,List.all_nil,Bool.and_true,aP,decide_eq_true_eq]
  omega
 have e:uZ [.int (Ke A),.int ((A.length:Int) - Ke A - yj A),.int (yj A)]=some [(Ke A:Int),(A.length:Int) - Ke A - yj A,(yj A:Int)]:=rfl
 unfold cnt qce
 simp only [e]
 rw [if_pos ⟨by simp,c⟩]
 congr 2
 simp
 omega
theorem Uy {r t:D} (hA:∀ x∈A,NS x.2) (hw:A.length<=100):qw ca [.ins (ca "Book") (bk5 lk r t sd b),.at_ b (aD A)]=.ok (cnt A,[.non,.non]):=by
 have e5:=f5 (c:=ca "Book") (ul (lk:=lk) (r:=r) (t:=t) (sd:=sd) (b:=b))
 generalize hB:(D.ins (ca "Book") (bk5 lk r t sd b))=B at e5
 have hd:∀ x y:Option D,jP 1 (d1 (zS (ca "Book") "asked") (qg 0)) [some B,some (.at_ b (aD A)),x,y]=.ok (.lst (aD A),[some B,some (.at_ b (aD A)),x,y]):=fun x y=>by
  unfold jP
  simp only [kJ,qJ,aj,ah,qG,e5,jH,if_true]
 have hps:aD A=(A.map fun x=>(D.str x.1,x.2)).map fun p=>.tup [p.1,p.2]:=by simp [aD]
 have hz:(A.map fun x=>(D.str x.1,x.2)).length<=sizeLine:=by rw [aG]; exact jy (by omega)
 have c1:=Vw (own:=[]) (cap:=[]) (fi:=wt (jP 1 (d1 (zS (ca "Book") "asked") (qg 0)))) (ft:=qR (d2 eqD (qg 1) (qg 0))) (fe:=qg 0) (ρ:=[some B,some (.at_ b (aD A)),none,none]) (ρ1:=[some B,some (.at_ b (aD A)),none,none]) (ps:=A.map fun x=>(D.str x.1,x.2)) (fun p=>match p.1 with | .str w=>eqB p.2 w | _=>false) (fun p=>p.1) (by simp)
  (by rw [KN,hd,qG]; simp only [ku,qG]; rw [hps]) hz (fun p hp=>by
   obtain ⟨x,hx,rfl⟩:=aH.mp hp
   simp [qa4 (hA x hx) x.1]) (fun p _ _=>by simp)
 have c2:=Vw (own:=[]) (cap:=[]) (fi:=wt (jP 1 (d1 (zS (ca "Book") "asked") (qg 0)))) (ft:=qR (d2 qev (qg 1) (dC .non))) (fe:=qg 0) (ρ:=[some B,some (.at_ b (aD A)),some (.int (Ke A:Nat)),none]) (ρ1:=[some B,some (.at_ b (aD A)),some (.int (Ke A:Nat)),none]) (ps:=A.map fun x=>(D.str x.1,x.2)) (fun p=>noB p.2) (fun p=>p.1) (by simp)
  (by rw [KN,hd,qG]; simp only [ku,qG]; rw [hps]) hz (fun p hp=>by
   obtain ⟨x,hx,rfl⟩:=aH.mp hp
   simp [qfv (hA x hx)]) (fun p _ _=>by simp)
 have l1:kG (.lst (((A.map fun x=>(D.str x.1,x.2)).filter fun p=>match p.1 with | .str w=>eqB p.2 w | _=>false).map fun p=>p.1))=.ok (.int (Ke A:Nat)):=by
  simp [kG,Ke,List.filter_map,e7]
 have l2:kG (.lst (((A.map fun x=>(D.str x.1,x.2)).filter fun p=>noB p.2).map fun p=>p.1))=.ok (.int (yj A:Nat)):=by
  simp [kG,yj,List.filter_map,e7]
 have l3:kG (.lst (aD A))=.ok (.int (A.length:Nat)):=by simp [kG]
 have z3:3<=sizeLine:=jy (by omega)
 refine runD_ap.trans ?_
 unfold vZ
 simp only [qv,aA,aT,ae,aq,Nat.reduceAdd,Nat.reduceSub,au,bp,bq]
 refine (jL (ρ1:=[some B,some (.at_ b (aD A)),some (.int (Ke A:Nat)),none]) (by rw [wG,kJ,c1]; simp only [qG,l1,jH,ae,aq,Nat.reduceAdd,Nat.reduceLT,if_true,aM,aN])).trans ?_
 refine (jL (ρ1:=[some B,some (.at_ b (aD A)),some (.int (Ke A:Nat)),some (.int (yj A:Nat))]) (by rw [wG,kJ,c2]; simp only [qG,l2,jH,ae,aq,Nat.reduceAdd,Nat.reduceLT,if_true,aM,aN])).trans ?_
 rw [vG,vX]
 simp only [qY,vi,kJ,qJ,aj,ah,qG,hd,l3,jH,VQ,gL,ji,ae,aq,Nat.reduceAdd,if_pos z3]
 rfl
theorem qcA {r t:D} (hw:es.length<=100):jI ca [.ins (ca "Book") (bk5 lk r t sd b),.at_ b (es++[.tup [.str w,d]])]=.ok (.str w,[.non,.at_ b es]):=by
 have e5:=f5 (c:=ca "Book") (ul (lk:=lk) (r:=r) (t:=t) (sd:=sd) (b:=b))
 generalize hB:(D.ins (ca "Book") (bk5 lk r t sd b))=B at e5
 generalize hE:es++[.tup [.str w,d]]=E
 have hl:E.length=es.length+1:=by rw [<-hE]; simp
 have hg:E[E.length - 1]?=some (.tup [.str w,d]):=by rw [hl,<-hE]; simp
 have hdl:E.dropLast=es:=by rw [<-hE]; simp
 have hd:jP 1 (d1 (zS (ca "Book") "asked") (qg 0)) [some B,some (.at_ b E)]=.ok (.lst E,[some B,some (.at_ b E)]):=by
  unfold jP
  simp only [kJ,qJ,aj,ah,qG,e5,jH,if_true]
 have hn:eqD (.int ((E.length:Nat):Int)) (.int 0)=.ok (.bl false):=by
  have:(((E.length:Nat):Int) == 0)=false:=beq_eq_false_iff_ne.mpr (by omega)
  simp only [eqD,eqN,eqS,this]
 have h0:ixD (.tup [.str w,d]) (.int 0)=.ok (.str w):=by simp [ixD,at0]
 refine runD_ap.trans ?_
 unfold uH
 simp only [qv,aA,aT,ae,aq,Nat.reduceAdd,Nat.reduceSub,au,bp,bq]
 refine (jL (ρ1:=[some B,some (.at_ b E)]) ?_).trans ?_
 ·simp only [yP,jx,vi,kJ,hd,qG,kG,jH,ze,hn,KL,ba,if_false,vY]
 ·rw [vG,vi]
  unfold qb8
  simp only [hd,qG,aj,ah,hg,hdl,ze,h0,jH,aM,aN]
  rfl
theorem qfw (ds:List D) (h:ds.length<=50):slD none (some 1) none (.tup ds)=.ok (.tup (ds.take 1)):=by
 have e:gl ds.length none (some 1) 1=bg (min 1 ds.length):=by
  unfold gl
  have hp:cj (aR none (some 1) 1 ds.length).1 (aR none (some 1) 1 ds.length).2 1=min 1 ds.length:=by
   simp [cj,aR]
   split <;> omega
  rw [hp]
  conv=>rhs; rw [<-List.map_id (bg (min 1 ds.length))]
  apply List.map_congr_left
  intro k hk
  simp [aR]
 have e2:vF (gl ds.length none (some 1) 1) ds=ds.take 1:=by
  rw [e]
  cases ds with
  | nil=>rfl
  | cons d l=>
   have hm:min 1 (d::l).length=1:=by simp
   rw [hm]
   rfl
 have hz:(ds.take 1).length<=sizeLine:=jy (by rw [dA]; omega)
 simp only [slD,Option.getD_none,e2]
 rw [if_pos ⟨by decide,hz⟩]
section
variable {g j:Nat}
theorem qa7 (h1:ρ[i]?=some (some (bkD ca ws p q r l b))) (h2:ρ[g]?=some (some (.at_ b (aD A)))) (hA:∀ x∈A,NS x.2) (hl:A.length<=100):dMR (ca "Book") "counts" "asked" g (qw ca) (qg i) ρ=.ok (cnt A,ρ):=by
 have hlk:=ul (lk:=Ld p q) (r:=.int r) (t:=.tup (prL l)) (sd:=sdL ws p q r l) (b:=b)
 have hno:=qan (lk:=Ld p q) (r:=.int r) (t:=.tup (prL l)) (sd:=sdL ws p q r l) (b:=b) (n := "counts") (by decide +kernel)
 have hc:=Uy (ca:=ca) (lk:=Ld p q) (r:=.int r) (t:=.tup (prL l)) (sd:=sdL ws p q r l) (b:=b) hA hl
 unfold dMR
 simp only [qJ,h1,qG,hno,and_self,if_true,hlk,h2,hc]
 rfl
theorem qfZ (M:Made ws p q r l) (hn:(ws.map (num l p q r)).Nodup) (hw:Kj w) (h1:ρ[i]?=some (some (bkD ca ws p q r l b))) (h2:ρ[g]?=some (some (.at_ b (aD A)))) (h3:ρ[j]?=some (some (.str w))) (hl:A.length<=100) :
  dMG (ca "Book") "ask" "asked" g (ki ca) (qg i) (qe (qg j) qF) ρ=.ok (ans ws p q r l w,ρ.set g (some (.at_ b (aD (A++[(w,fnd ws p q r l w)]))))):=by
 have hlk:=ul (lk:=Ld p q) (r:=.int r) (t:=.tup (prL l)) (sd:=sdL ws p q r l) (b:=b)
 have hno:=qan (lk:=Ld p q) (r:=.int r) (t:=.tup (prL l)) (sd:=sdL ws p q r l) (b:=b) (n := "ask") (by decide +kernel)
 have ha:=qcz (ca:=ca) M hn hw (b:=b) (es:=aD A) (by rw [aG]; omega)
 have e:aD A++[.tup [.str w,fnd ws p q r l w]]=aD (A++[(w,fnd ws p q r l w)]):=by simp [aD]
 rw [e] at ha
 unfold dMG
 simp only [qJ,h1,h2,h3,qG,hno,and_self,if_true,qY,ji,hlk,bp,bq,ha,ae,aq,Nat.reduceAdd,aj,ah]
theorem qek (h1:ρ[i]?=some (some (bkD ca ws p q r l b))) (h2:ρ[g]?=some (some (.at_ b (aD (A++[(w,d)]))))) (hl:A.length<=100) :
  dMG (ca "Book") "undo" "asked" g (jI ca) (qg i) qF ρ=.ok (.str w,ρ.set g (some (.at_ b (aD A)))):=by
 have hlk:=ul (lk:=Ld p q) (r:=.int r) (t:=.tup (prL l)) (sd:=sdL ws p q r l) (b:=b)
 have hno:=qan (lk:=Ld p q) (r:=.int r) (t:=.tup (prL l)) (sd:=sdL ws p q r l) (b:=b) (n := "undo") (by decide +kernel)
 have ha:=qcA (ca:=ca) (lk:=Ld p q) (r:=.int r) (t:=.tup (prL l)) (sd:=sdL ws p q r l) (b:=b) (es:=aD A) (w:=w) (d:=d) (by rw [aG]; exact hl)
 have e:aD A++[.tup [.str w,d]]=aD (A++[(w,d)]):=by simp [aD]
 rw [e] at ha
 unfold dMG
 simp only [qJ,h1,h2,qG,hno,and_self,if_true,ji,hlk,bp,bq,ha,ae,aq,Nat.reduceAdd,aj,ah]
theorem qa8 (M:Made ws p q r l) (hn:(ws.map (num l p q r)).Nodup):Uc (ans ws p q r l w) .non=.ok (.bl (decide (w∈ws))):=by
 unfold ans
 rw [Zl M hn]
 by_cases h:w∈ws
 ·rw [decide_eq_true h]; rfl
 ·rw [decide_eq_false h]; rfl
theorem qfx:inA (.str w) (Wd ws)=.ok (.bl (decide (w∈ws))):=by
 show qcF _ _=_
 simp [qcF,inD,yh]
theorem qfy (x:Bool):neD (.bl x) (.bl x)=.ok (.bl false):=by cases x <;> rfl
theorem qa9 (x:Int):neD (.int x) (.int x)=.ok (.bl false):=by simp [neD,eqN,eqS]
theorem qba (x:Str):neD (.str x) (.str x)=.ok (.bl false):=by simp [neD,eqN,eqS]
theorem qel:eqD (cnt A) (cnt A)=.ok (.bl true):=by simp [cnt,eqD,eqN,wq,eqS]
theorem qem {B:List (Str×D)}:neD (.tup [cnt A,cnt B]) (.tup [cnt A,cnt B])=.ok (.bl false):=by simp [cnt,neD,eqN,wq,eqS]
end
abbrev bdy (ca:Str->Addr):Sl->Out (Fl×Sl):=(jm (wm 11 (qC [.vl,.sl 1,.vl] wS (qe (qg 0) (kE (qe (d2 vD (d1 KF (qg 5)) (xM (qe (dC (.str "q")) (qe (dC (.str "a")) (qe (dC (.str "abcab")) (qe (dC (.str "z")) qF)))))) qF)))))
  (jm (wx (KD 2 We (yk (qe (dMR (ca "Book") "counts" "asked" 14 (qw ca) (qg 9)) (qe (dMR (ca "Book") "counts" "asked" 15 (qw ca) (qg 10)) qF)))))
  (jm (qdP 12 13 (qe (dMG (ca "Book") "ask" "asked" 14 (ki ca) (qg 9) (qe (qg 11) qF)) (qe (dMG (ca "Book") "ask" "asked" 15 (ki ca) (qg 10) (qe (qg 11) qF)) qF)))
  (jm (wx (KD 3 We (qg 11)))
  (jm (sIf (dOr (qR (d2 neD (d2 Uc (qg 12) (dC .non)) (d2 inA (qg 11) (qg 5)))) (qR (d2 neD (d2 Uc (qg 13) (dC .non)) (d2 eqD (qg 11) (d2 ixD (qg 5) (dC (.int 0))))))) (km (dC (.bl false))) jF)
  (sIf (dOr (qR (d2 neD (d1 qce (dMR (ca "Book") "counts" "asked" 14 (qw ca) (qg 9))) (d2 vD (qg 4) (dC (.int 1))))) (qR (d2 neD (d1 qce (dMR (ca "Book") "counts" "asked" 15 (qw ca) (qg 10))) (d2 vD (qg 4) (dC (.int 1)))))) (km (dC (.bl false))) jF))))))
abbrev ubd (ca:Str->Addr):Sl->Out (Fl×Sl):=(jm (sIf (dOr (qR (d2 neD (dMG (ca "Book") "undo" "asked" 14 (jI ca) (qg 9) qF) (d2O 3 ixD (d1 qdv (dC (.int 1)))))) (qR (d2 neD (dMG (ca "Book") "undo" "asked" 15 (jI ca) (qg 10) qF) (JK 3)))) (km (dC (.bl false))) jF)
  (sIf (qR (d2 neD (yk (qe (dMR (ca "Book") "counts" "asked" 14 (qw ca) (qg 9)) (qe (dMR (ca "Book") "counts" "asked" 15 (qw ca) (qg 10)) qF))) (JK 2))) (km (dC (.bl false))) jF))
abbrev lg (ws:List Str) (p q r:Int) (l:List (Str×Int)) (W:List Str):List (Str×D):=W.map fun w=>(w,fnd ws p q r l w)
abbrev pc (ws us:List Str) (p q r:Int) (l:List (Str×Int)) (W:List Str):D:=.tup [cnt (lg ws p q r l W),cnt (lg us p q r l W)]
noncomputable def vJ (ws us:List Str) (p q r:Int) (l:List (Str×Int)) (W:List Str):List D:=(bg W.length).map fun j=>pc ws us p q r l (W.take j)
variable {W:List Str}
theorem gI {us:List Str}:vJ ws us p q r l (W++[w])=vJ ws us p q r l W++[pc ws us p q r l W]:=by
 unfold vJ
 rw [am,c8,List.range_succ,cI,List.map_singleton,List.take_left' rfl]
 congr 1
 apply List.map_congr_left
 intro j hj
 rw [List.take_append_of_le_length (dt (cB.mp hj))]
theorem Uz:∀ x∈lg ws p q r l W,NS x.2:=fun x hx=>by
 obtain ⟨w,_,rfl⟩:=aH.mp hx
 exact qa6
theorem VF:lg ws p q r l (W++[w])=lg ws p q r l W++[(w,fnd ws p q r l w)]:=by simp [lg]
variable {w0:Str} {b1 b2:Addr}
section
theorem Zo (hW:∀ w∈ws,Kj w) (h:d∈ws.map D.str++[.str "q",.str "a",.str "abcab",.str "z"]):∃ w,Kj w/\d=.str w:=by
 rcases bc.mp h with h | h
 ·obtain ⟨w,hw,rfl⟩:=aH.mp h
  exact ⟨w,hW w hw,rfl⟩
 ·have:∀ x∈["q", "a", "abcab", "z"],Kj (ao x):=by
   intro x hx
   simp only [ac,bo,or_false] at hx
   rcases hx with rfl | rfl | rfl | rfl <;> refine ⟨by decide,by decide,fun c hc=>?_⟩ <;> revert c <;> unfold az <;> decide +kernel
  simp only [ac,bo,or_false] at h
  rcases h with rfl | rfl | rfl | rfl
  ·exact ⟨"q",this _ (by simp),rfl⟩
  ·exact ⟨"a",this _ (by simp),rfl⟩
  ·exact ⟨"abcab",this _ (by simp),rfl⟩
  ·exact ⟨"z",this _ (by simp),rfl⟩
abbrev sL (ns:List Int) (t past:List D) (W:List Str) (k:Option D) (w0:Str) (ws:List Str) (p q r:Int) (l:List (Str×Int)) (ca:Str->Addr) (b1 b2:Addr) (x y z:Option D):Sl:=
 [some (scr ns),some (.lst t),some (.lst past),some (.lst (W.map D.str)),k,some (Wd (w0::ws)),some (Ld p q),some (.int r),some (.tup (prL l)),some (bkD ca (w0::ws) p q r l b1),some (bkD ca [w0] p q r l b2),x,y,z,some (.at_ b1 (aD (lg (w0::ws) p q r l W))),some (.at_ b2 (aD (lg [w0] p q r l W)))]
theorem Zp:([w0].map (num l p q r)).Nodup:=by simp
theorem qcB (ns:List Int) (M:Made (w0::ws) p q r l) (hn:((w0::ws).map (num l p q r)).Nodup) (t:List D) (ht:t.length < 500) (W:List Str) (hW:W.length<=20) (x y z:Option D) :
  ∃ w x' y' z',bdy ca (sL ns t (vJ (w0::ws) [w0] p q r l W) W (some (.int (W.length:Nat))) w0 ws p q r l ca b1 b2 x y z)=.ok (.nx,sL ns (t++[.int 0]) (vJ (w0::ws) [w0] p q r l (W++[w])) (W++[w]) (some (.int (W.length:Nat))) w0 ws p q r l ca b1 b2 x' y' z'):=by
 have M1:=QJ M (aw (a:=w0) (l:=ws))
 have h6:=M.hw.2.1
 obtain ⟨d,hd,hp⟩:=QC ns t ((w0::ws).map D.str++[.str "q",.str "a",.str "abcab",.str "z"]) (by simp) (by omega)
 obtain ⟨w,hw,rfl⟩:=Zo M.hw.2.2.2 hd
 have z4:4<=sizeLine:=jy (by omega)
 have z2:2<=sizeLine:=jy (by omega)
 have hadd:vD (.lst ((w0::ws).map D.str)) (.lst [.str "q",.str "a",.str "abcab",.str "z"])=.ok (.lst ((w0::ws).map D.str++[.str "q",.str "a",.str "abcab",.str "z"])):=by
  have:((w0::ws).map D.str).length+4<=sizeLine:=by rw [aG]; exact jy (by omega)
  simp only [vD,ae,aq,Nat.reduceAdd]
  rw [if_pos (by simpa using this)]
 have lgl:∀ us:List Str,(lg us p q r l W).length<=100:=fun us=>by rw [aG]; omega
 have lgl':∀ us:List Str,(lg us p q r l (W++[w])).length<=100:=fun us=>by rw [aG]; simp; omega
 have hpl:(vJ (w0::ws) [w0] p q r l W).length < sizeLine:=by unfold vJ; rw [aG,dj]; exact Nat.lt_of_succ_le (jy (by omega))
 have hWl:(W.map D.str).length < sizeLine:=by rw [aG]; exact Nat.lt_of_succ_le (jy (by omega))
 refine ⟨w,some (.str w),some (ans (w0::ws) p q r l w),some (ans [w0] p q r l w),?_⟩
 unfold bdy
 rw [kD (ρ1:=sL ns (t++[.int 0]) (vJ (w0::ws) [w0] p q r l W) W (some (.int (W.length:Nat))) w0 ws p q r l ca b1 b2 (some (.str w)) y z) ?g1,
  kD (ρ1:=sL ns (t++[.int 0]) (vJ (w0::ws) [w0] p q r l (W++[w])) W (some (.int (W.length:Nat))) w0 ws p q r l ca b1 b2 (some (.str w)) y z) ?g2,
  kD (ρ1:=[some (scr ns),some (.lst (t++[.int 0])),some (.lst (vJ (w0::ws) [w0] p q r l (W++[w]))),some (.lst (W.map D.str)),some (.int (W.length:Nat)),some (Wd (w0::ws)),some (Ld p q),some (.int r),some (.tup (prL l)),some (bkD ca (w0::ws) p q r l b1),some (bkD ca [w0] p q r l b2),some (.str w),some (ans (w0::ws) p q r l w),some (ans [w0] p q r l w),some (.at_ b1 (aD (lg (w0::ws) p q r l (W++[w])))),some (.at_ b2 (aD (lg [w0] p q r l (W++[w]))))]) ?g3,
  kD (ρ1:=sL ns (t++[.int 0]) (vJ (w0::ws) [w0] p q r l (W++[w])) (W++[w]) (some (.int (W.length:Nat))) w0 ws p q r l ca b1 b2 (some (.str w)) (some (ans (w0::ws) p q r l w)) (some (ans [w0] p q r l w))) ?g4,
  kD (ρ1:=sL ns (t++[.int 0]) (vJ (w0::ws) [w0] p q r l (W++[w])) (W++[w]) (some (.int (W.length:Nat))) w0 ws p q r l ca b1 b2 (some (.str w)) (some (ans (w0::ws) p q r l w)) (some (ans [w0] p q r l w))) ?g5]
 case g1=>
  simp only [sL,wG,uY,qY,Ws,qJ,aj,ah,qG,vi,kJ,KF,jH,gZ,ze,ji,ae,aq,Nat.reduceAdd,if_pos z4,hadd,qH,dN,fk,hp,xu,jT,aM,aN,Nat.reduceLT,if_true]
 case g2=>
  rw [Qb,Xj]
  simp only [sL,aj,ah,xQ,if_true,vX,qY]
  rw [qa7 (A:=lg (w0::ws) p q r l W) (b:=b1) rfl rfl Uz (lgl _)]
  simp only [qG]
  rw [qa7 (A:=lg [w0] p q r l W) (b:=b2) rfl rfl Uz (lgl _)]
  simp only [qG,ji,ae,aq,Nat.reduceAdd,if_pos z2,aj,ah,We,if_pos hpl,aM,aN,gI]
 case g3=>
  unfold qdP
  rw [qY,qfZ (A:=lg (w0::ws) p q r l W) (b:=b1) M hn hw rfl rfl rfl (lgl _)]
  simp only [qG,sL,aM,aN]
  rw [qY,qfZ (A:=lg [w0] p q r l W) (b:=b2) M1 Zp hw rfl rfl rfl (lgl _)]
  simp only [qG,ji,ae,aq,Nat.reduceAdd,Nat.reduceLT,and_self,if_true,aM,aN,VF]
 case g4=>
  rw [Qb,Xj]
  simp only [sL,aj,ah,xQ,if_true,qJ,qG,We,if_pos hWl,aM,aN,cI,aA,aT]
 case g5=>
  have i0:ixD (Wd (w0::ws)) (.int 0)=.ok (.str w0):=by simp [ixD,at0]
  have e0:eqD (.str w) (.str w0)=.ok (.bl (decide (w∈[w0]))):=by
   simp only [aC,eqD,eqN,eqS]
   congr 2
  rw [yP,Xh]
  simp only [sL,jx,vi,qJ,aj,ah,qG,ze,qa8 M hn,qa8 M1 Zp,jH,qfx,qfy,KL,i0,e0,ba,if_false,vY]
 ·have ai:vD (.int (W.length:Nat)) (.int 1)=.ok (.int ((W++[w]).length:Nat)):=by simp [vD,gL]
  have s1:=Zn (lgl' (w0::ws))
  have s2:=Zn (lgl' [w0])
  rw [aG] at s1 s2
  rw [yP,Xh,jx,vi,kJ,qa7 (A:=lg (w0::ws) p q r l (W++[w])) (b:=b1) rfl rfl Uz (lgl' _)]
  simp only [qG,s1,jH,vi,sL,qJ,aj,ah,ze,ai,qa9,KL,ba,if_false]
  rw [jx,vi,kJ,qa7 (A:=lg [w0] p q r l (W++[w])) (b:=b2) rfl rfl Uz (lgl' _)]
  simp only [qG,s2,jH,vi,qJ,aj,ah,ze,ai,qa9,KL,ba,if_false,vY]
end
section
theorem WN (ns:List Int) (M:Made (w0::ws) p q r l) (hn:((w0::ws).map (num l p q r)).Nodup):∀ (n:Nat) (t:List D) (W:List Str) (k x y z:Option D),t.length+n < 500->W.length+n<=20 ->
  ∃ t' W' k' x' y' z',W'.length=W.length+n/\xo (gNm 4) (bdy ca) ((List.range' W.length n).map fun (j:Nat)=>D.int j) (sL ns t (vJ (w0::ws) [w0] p q r l W) W k w0 ws p q r l ca b1 b2 x y z)=.ok (.nx,sL ns t' (vJ (w0::ws) [w0] p q r l W') W' k' w0 ws p q r l ca b1 b2 x' y' z')
 | 0,t,W,k,x,y,z,_,_=>⟨t,W,k,x,y,z,rfl,rfl⟩
 | n+1,t,W,k,x,y,z,h1,h2=>by
  obtain ⟨w,x1,y1,z1,e⟩:=qcB (ca:=ca) (b1:=b1) (b2:=b2) ns M hn t (by omega) W (by omega) x y z
  obtain ⟨t',W',k',x',y',z',e1,e2⟩:=WN ns M hn n (t++[.int 0]) (W++[w]) (some (.int (W.length:Nat))) x1 y1 z1 (by rw [am]; simp; omega) (by rw [am]; simp; omega)
  refine ⟨t',W',k',x',y',z',by rw [e1,am]; simp; omega,?_⟩
  rw [List.range'_succ,aA,QI (ρ1:=sL ns t (vJ (w0::ws) [w0] p q r l W) W (some (.int (W.length:Nat))) w0 ws p q r l ca b1 b2 x y z) rfl e]
  rw [am,c8] at e2
  exact e2
theorem qen (xs:List D) (d:D):neD (.lst (xs++[d])) (.lst [])=.ok (.bl true):=by
 cases xs <;> simp [neD,eqN,wq]
theorem qcC (ns:List Int) {t past:List D} {w:Str} {k x y z:Option D} (hW:W.length<=20) :
  ubd ca (sL ns t (past++[pc (w0::ws) [w0] p q r l W]) (W++[w]) k w0 ws p q r l ca b1 b2 x y z)=.ok (.nx,sL ns t past W k w0 ws p q r l ca b1 b2 x y z):=by
 have lgl:∀ us:List Str,(lg us p q r l W).length<=100:=fun us=>by rw [aG]; omega
 have z2:2<=sizeLine:=jy (by omega)
 have hl:(W++[w]).map D.str=W.map D.str++[.str w]:=by simp
 have hl2:∀ (xs:List D) (d:D),(xs++[d])[(xs++[d]).length - 1]?=some d:=fun xs d=>by simp
 have hdl:∀ (xs:List D) (d:D),(xs++[d]).dropLast=xs:=fun xs d=>by simp
 have ng:qdv (.int 1)=.ok (.int (-1)):=rfl
 have im:ixD (.lst (W.map D.str++[.str w])) (.int (-1))=.ok (.str w):=by
  have:atI (W.map D.str++[.str w]) (-1)=some (.str w):=ZN _ _
  simp only [ixD,this]
 unfold ubd
 rw [kD (ρ1:=[some (scr ns),some (.lst t),some (.lst (past++[pc (w0::ws) [w0] p q r l W])),some (.lst (W.map D.str)),k,some (Wd (w0::ws)),some (Ld p q),some (.int r),some (.tup (prL l)),some (bkD ca (w0::ws) p q r l b1),some (bkD ca [w0] p q r l b2),x,y,z,some (.at_ b1 (aD (lg (w0::ws) p q r l W))),some (.at_ b2 (aD (lg [w0] p q r l W)))]) ?g1]
 case g1=>
  rw [yP,Xh,jx,vi,qek (A:=lg (w0::ws) p q r l W) (b:=b1) (w:=w) (d:=fnd (w0::ws) p q r l w) rfl (by rw [<-VF]; rfl) (lgl _)]
  simp only [qG,sL,aM,aN]
  unfold d2O
  simp only [kJ,ze,qG,ng,jH,aj,ah,hl,im,qba,KL,ba,if_false]
  rw [jx,vi,qek (A:=lg [w0] p q r l W) (b:=b2) (w:=w) (d:=fnd [w0] p q r l w) rfl (by rw [<-VF]; rfl) (lgl _)]
  simp only [qG,aM,aN]
  unfold JK
  simp only [aj,ah,hl2,hdl,qG,qba,jH,KL,ba,if_false,aM,aN,vY]
 rw [yP,jx,vi,vX,qY,qa7 (A:=lg (w0::ws) p q r l W) (b:=b1) rfl rfl Uz (lgl _)]
 simp only [qG]
 rw [qY,qa7 (A:=lg [w0] p q r l W) (b:=b2) rfl rfl Uz (lgl _)]
 unfold JK
 simp only [qG,ji,ae,aq,Nat.reduceAdd,if_pos z2,aj,ah,hl2,hdl,pc,qem,jH,KL,ba,if_false,aM,aN,vY]
theorem WO (ns:List Int) {t:List D} {k x y z:Option D}:∀ (n:Nat) (W:List Str),W.length=n->n<=20->∀ m,n < m ->
  kW (qR (d2O 2 neD (xM qF))) (ubd ca) m (sL ns t (vJ (w0::ws) [w0] p q r l W) W k w0 ws p q r l ca b1 b2 x y z)=.ok (.nx,sL ns t [] [] k w0 ws p q r l ca b1 b2 x y z)
 | 0,W,h,_,m,hm=>by
  obtain ⟨m,rfl⟩:∃ m',m=m'+1:=⟨m - 1,by omega⟩
  rw [dU.mp h]
  have z0:0<=sizeLine:=bt _
  have e:neD (.lst []) (.lst [])=.ok (.bl false):=rfl
  unfold kW d2O
  simp only [jx,gZ,ji,qG,aq,if_pos z0,sL,aj,ah,show vJ (w0::ws) [w0] p q r l []=[] from rfl,e,jH,KL,ba,if_false]
 | n+1,W,h,hn,m,hm=>by
  obtain ⟨m,rfl⟩:∃ m',m=m'+1:=⟨m - 1,by omega⟩
  rcases List.eq_nil_or_concat W with rfl | ⟨V,w,rfl⟩
  ·simp at h
  rw [List.concat_eq_append] at h ⊢
  rw [am,c8] at h
  have ih:=WO ns (t:=t) (k:=k) (x:=x) (y:=y) (z:=z) n V (by omega) (by omega) m (by omega)
  have u:=qcC (ca:=ca) (w0:=w0) (ws:=ws) (p:=p) (q:=q) (r:=r) (l:=l) (b1:=b1) (b2:=b2) ns (t:=t) (past:=vJ (w0::ws) [w0] p q r l V) (W:=V) (w:=w) (k:=k) (x:=x) (y:=y) (z:=z) (by omega)
  have z0:0<=sizeLine:=bt _
  rw [gI]
  unfold kW
  have t1:qR (d2O 2 neD (xM qF)) (sL ns t (vJ (w0::ws) [w0] p q r l V++[pc (w0::ws) [w0] p q r l V]) (V++[w]) k w0 ws p q r l ca b1 b2 x y z)=.ok (true,sL ns t (vJ (w0::ws) [w0] p q r l V++[pc (w0::ws) [w0] p q r l V]) (V++[w]) k w0 ws p q r l ca b1 b2 x y z):=by
   unfold d2O
   simp only [jx,gZ,ji,qG,aq,if_pos z0,sL,aj,ah,qen,jH,KL]
  rw [t1]
  simp only [qG,if_true]
  rw [u]
  simp only [qG]
  exact ih
theorem qeo {ca:Str->Addr} (ns:List Int):∃ ρ1 ds1 ρ2 fs1 ds2 ρ3 fs2,XO ca (qv qck [scr ns])=.ok (.nx,ρ1)/\XQ ρ1=.ok (ds1,ρ2)/\ju ca ds1=.ok fs1/\Vv ρ2=.ok (ds2,ρ3)/\ju ca ds2=.ok fs2/\ρ3.length=16 /\
  ∀ b1 b2,∃ ρ',WF ca ((((ρ3.set 9 (some (.ins (ca "Book") (vj "asked" (.raw (.ref b1)) fs1)))).set 10 (some (.ins (ca "Book") (vj "asked" (.raw (.ref b2)) fs2)))).set 14 (some (.at_ b1 []))).set 15 (some (.at_ b2 [])))=.ok (.rt (.bl true),ρ'):=by
 have z0:0<=sizeLine:=bt _
 obtain ⟨ws,p,q,r,l,t1,M,hn,ht,g1⟩:=qcw ns [] (by simp)
 rw [aq] at ht
 obtain ⟨w0,ws,rfl⟩:∃ w0 us,ws=w0::us:=by
  cases ws with
  | nil=>have:=M.hw.1; simp at this
  | cons a b=>exact ⟨a,b,rfl⟩
 have M1:=QJ M (aw (a:=w0) (l:=ws))
 have h6:=M.hw.2.1
 refine ⟨[some (scr ns),some (.lst t1),none,none,none,some (Wd (w0::ws)),some (Ld p q),some (.int r),some (.tup (prL l)),none,none,none,none,none,none,none],[Wd (w0::ws),Ld p q,.int r,.tup (prL l)],[some (scr ns),some (.lst t1),none,none,none,some (Wd (w0::ws)),some (Ld p q),some (.int r),some (.tup (prL l)),none,none,none,none,none,none,none],bk4 (Ld p q) (.int r) (.tup (prL l)) (sdL (w0::ws) p q r l),[Wd [w0],Ld p q,.int r,.tup (prL l)],[some (scr ns),some (.lst t1),none,none,none,some (Wd (w0::ws)),some (Ld p q),some (.int r),some (.tup (prL l)),none,none,none,none,none,none,none],bk4 (Ld p q) (.int r) (.tup (prL l)) (sdL [w0] p q r l),?_,rfl,Zk M hn,?_,Zk M1 Zp,rfl,fun b1 b2=>?_⟩
 ·unfold XO
  simp only [qv,aA,aT,ae,aq,Nat.reduceAdd,Nat.reduceSub,au,bp,bq]
  rw [kD (ρ1:=[some (scr ns),some (.lst []),none,none,none,none,none,none,none,none,none,none,none,none,none,none]) (by simp [z0])]
  simp [qH,jT,g1,uD,ja,uC]
 ·have hs:=qfw ((w0::ws).map D.str) (by rw [aG]; omega)
  unfold Vv YH
  simp only [qY,qJ,aj,ah,qG,gR,ze,hs,jH,ji]
  rfl
 ·rw [qfY,qfY]
  show ∃ ρ',WF ca [some (scr ns),some (.lst t1),none,none,none,some (Wd (w0::ws)),some (Ld p q),some (.int r),some (.tup (prL l)),some (bkD ca (w0::ws) p q r l b1),some (bkD ca [w0] p q r l b2),none,none,none,some (.at_ b1 []),some (.at_ b2 [])]=.ok (.rt (.bl true),ρ')
  obtain ⟨n,n0,n1,dr⟩:=wT ns t1 (many:=12) (by omega) (by omega)
  obtain ⟨m,rfl⟩:∃ m:Nat,n=m:=⟨n.toNat,by omega⟩
  obtain ⟨t',W',k',x',y',z',e1,e2⟩:=WN (ca:=ca) (b1:=b1) (b2:=b2) ns M hn m (t1++[.int 0]) [] none none none none (by rw [am]; simp; omega) (by simp; omega)
  have e3:=WO (ca:=ca) (w0:=w0) (ws:=ws) (p:=p) (q:=q) (r:=r) (l:=l) (b1:=b1) (b2:=b2) ns (t:=t') (k:=k') (x:=x') (y:=y') (z:=z') W'.length W' rfl (by rw [e1]; simp; omega) 20 (by rw [e1]; simp; omega)
  refine ⟨sL ns t' [] [] k' w0 ws p q r l ca b1 b2 x' y' z',?_⟩
  unfold WF
  rw [kD (ρ1:=[some (scr ns),some (.lst t1),some (.lst []),none,none,some (Wd (w0::ws)),some (Ld p q),some (.int r),some (.tup (prL l)),some (bkD ca (w0::ws) p q r l b1),some (bkD ca [w0] p q r l b2),none,none,none,some (.at_ b1 []),some (.at_ b2 [])]) (by simp [z0]),
   kD (ρ1:=sL ns t1 [] [] none w0 ws p q r l ca b1 b2 none none none) (by simp [z0]),
   kD (ρ1:=sL ns t' (vJ (w0::ws) [w0] p q r l W') W' k' w0 ws p q r l ca b1 b2 x' y' z') ?g3,
   kD (ρ1:=sL ns t' [] [] k' w0 ws p q r l ca b1 b2 x' y' z') e3]
  case g3=>
   rw [Xi,iR0 (k:=(m:Nat)) (ρ1:=sL ns (t1++[.int 0]) [] [] none w0 ws p q r l ca b1 b2 none none none) (by omega) (by omega) ?g4]
   ·simp only [qG]
    rw [qgt,eZ,List.range_eq_range']
    exact e2
   ·simp only [sL,uY,qY,Ws,qJ,aj,ah,qG,ze,ji,qH,dN,fk,dr,xu,jT,aM,aN]
  ·have c1:=qa7 (ca:=ca) (ws:=w0::ws) (p:=p) (q:=q) (r:=r) (l:=l) (b:=b1) (A:=[]) (ρ:=sL ns t' [] [] k' w0 ws p q r l ca b1 b2 x' y' z') (i:=9) (g:=14) rfl rfl (by simp) (by simp)
   have c2:=qa7 (ca:=ca) (ws:=[w0]) (p:=p) (q:=q) (r:=r) (l:=l) (b:=b2) (A:=[]) (ρ:=sL ns t' [] [] k' w0 ws p q r l ca b1 b2 x' y' z') (i:=10) (g:=15) rfl rfl (by simp) (by simp)
   have e:eqD (.lst []) (.lst [])=.ok (.bl true):=rfl
   rw [vG,GA,vi,c1]
   simp only [qG]
   rw [c2]
   unfold d2O
   simp only [qG,qel,jH,Xg,if_true,gZ,ji,aq,if_pos z0,sL,aj,ah,aT,e]
end
end Kx
namespace Kx
open PySem PySem.Spec PyProof.Rows L2 L2.D2
variable {K:Frag} {h:Heap} {mg:Str->Option Value}
theorem qI (X:K.In h) (G:h.Ns mainGlobals mg) {x:Str} {st:Stmt} {ps:List Str} {f:Addr} {oc:Value} {od an:Option Addr} {osl:Array (Option Value)} {kV doc pm cdv ct:Value}
  (hb:∀ (kV doc pm:Value) (an:Option Addr) (cdv ct:Value) (us:List Value),us.length=ps.length->bindArgs (cz x x (ww st) (jz st) (qd st) .none kV doc pm an cdv ct) ⟨us,[]⟩=pure (ps.zip us))
  (a:nsIn K mainGlobals x=some (some (.ref f))) (l:K.lookup f=some ⟨oc,od,.func (cz x x (ww st) (jz st) (qd st) .none kV doc pm an cdv ct),osl⟩) (c:codeIn K cdv x=true) (k:keepIn K (.ref f)=true):jO K mg x st ps:=
 ⟨f,_,vK l c k,mg_of X G a,(vK l c k).binds hb⟩
variable {us:List Value} {P:List Value->Prop}
theorem qgu (hl:us.length=0) (h:P []):P us:=dU.mp hl ▸ h
theorem qep {n:Nat} (hl:us.length=n+1):∃ a l,us=a::l/\l.length=n:=by
 cases us with
 | nil=>cases hl
 | cons a l=>exact ⟨a,l,rfl,Nat.succ.inj hl⟩
theorem UC (hl:us.length=1) (h:∀ a,P [a]):P us:=by
 obtain ⟨a,l,rfl,e⟩:=qep hl
 exact qgu (P:=fun l=>P (a::l)) e (h a)
theorem VG (hl:us.length=2) (h:∀ a b,P [a,b]):P us:=by
 obtain ⟨a,l,rfl,e⟩:=qep hl
 exact UC (P:=fun l=>P (a::l)) e (h a)
theorem qcL (hl:us.length=3) (h:∀ a b c,P [a,b,c]):P us:=by
 obtain ⟨a,l,rfl,e⟩:=qep hl
 exact VG (P:=fun l=>P (a::l)) e (h a)
theorem qeq (hl:us.length=4) (h:∀ a b c d,P [a,b,c,d]):P us:=by
 obtain ⟨a,l,rfl,e⟩:=qep hl
 exact qcL (P:=fun l=>P (a::l)) e (h a)
theorem qgv (hl:us.length=5) (h:∀ a b c d e,P [a,b,c,d,e]):P us:=by
 obtain ⟨a,l,rfl,e⟩:=qep hl
 exact qeq (P:=fun l=>P (a::l)) e (h a)
theorem Zq {l:List Str} {f:Str->Addr} (nd:(l.map f).Nodup) {x y:Str} (hx:x∈l) (hy:y∈l) (e:f x=f y):x=y:=by
 obtain ⟨i,hi,rfl⟩:=eH.mp hx
 obtain ⟨j,hj,rfl⟩:=eH.mp hy
 have q:=(ff (h₀:=by simpa using hi) (h₁:=by simpa using hj) nd).mp (show (l.map f)[i]'(by simpa using hi)=(l.map f)[j]'(by simpa using hj) by simpa using e)
 subst q
 rfl
noncomputable def caT (T:List (Str×Addr)) (x:Str):Addr:=(T.lookup x).getD 0
noncomputable def qao (K:Frag) (Cs:List Addr) (W:Addr):Bool:=decide Cs.Nodup&&Cs.all fun c=>xcB K c&&decide (bU K (.ref c) (.ref W)=some true)&&decide (cD K (.ref c) (.type "ValueError")=some true)&&dI K c bmV "ValueError.__new__"&&Cs.all fun d=>decide (cD K (.ref c) (.ref d)=some (decide (c=d)))
theorem qap {Cs:List Addr} {W:Addr} (h:qao K Cs W=true):Cs.Nodup/\∀ c∈Cs,xcB K c=true/\bU K (.ref c) (.ref W)=some true/\cD K (.ref c) (.type "ValueError")=some true/\dI K c bmV "ValueError.__new__"=true/\∀ d∈Cs,cD K (.ref c) (.ref d)=some (decide (c=d)):=by
 unfold qao at h
 rw [aP,aZ] at h
 refine ⟨of_decide_eq_true h.1,fun c hc=>?_⟩
 have q:=h.2 c hc
 simp only [aP,decide_eq_true_eq,aZ] at q
 exact ⟨q.1.1.1.1,q.1.1.1.2,q.1.1.2,q.1.2,q.2⟩
theorem qer {c:Str} (h:c∈CS):c = "NoWords"\/c = "NoLook"\/c = "NoRoom"\/c = "NoWord"\/c = "NoWorths"\/c = "Never"\/c = "Nothing":=by simpa [CS] using h
theorem qfz (X:K.In h) (G:h.Ns mainGlobals mg) {CW CB C0 C1 C2 C3 C4 C5 C6:Addr}  {t_LEAST_PLACE t_MOST_LETTERS t_MOST_PLACE t_MOST_ROOM t_MOST_WORDS:Tok}
    (aW:nsIn K mainGlobals "WordError"=some (some (.ref CW)))
    (a0:nsIn K mainGlobals "NoWords"=some (some (.ref C0)))
    (a1:nsIn K mainGlobals "NoLook"=some (some (.ref C1)))
    (a2:nsIn K mainGlobals "NoRoom"=some (some (.ref C2)))
    (a3:nsIn K mainGlobals "NoWord"=some (some (.ref C3)))
    (a4:nsIn K mainGlobals "NoWorths"=some (some (.ref C4)))
    (a5:nsIn K mainGlobals "Never"=some (some (.ref C5)))
    (a6:nsIn K mainGlobals "Nothing"=some (some (.ref C6)))
    (z_all:nsIn K mainGlobals "all"=some none)
    (z_bool:nsIn K mainGlobals "bool"=some none)
    (z_dict:nsIn K mainGlobals "dict"=some none)
    (z_int:nsIn K mainGlobals "int"=some none)
    (z_isinstance:nsIn K mainGlobals "isinstance"=some none)
    (z_len:nsIn K mainGlobals "len"=some none)
    (z_list:nsIn K mainGlobals "list"=some none)
    (z_max:nsIn K mainGlobals "max"=some none)
    (z_min:nsIn K mainGlobals "min"=some none)
    (z_range:nsIn K mainGlobals "range"=some none)
    (z_set:nsIn K mainGlobals "set"=some none)
    (z_sorted:nsIn K mainGlobals "sorted"=some none)
    (z_str:nsIn K mainGlobals "str"=some none)
    (z_sum:nsIn K mainGlobals "sum"=some none)
    (z_tuple:nsIn K mainGlobals "tuple"=some none)
    (z_zip:nsIn K mainGlobals "zip"=some none)
    (c_LEAST_PLACE:nsIn K mainGlobals "LEAST_PLACE"=some (some (.int (-3) t_LEAST_PLACE)))
    (c_MOST_LETTERS:nsIn K mainGlobals "MOST_LETTERS"=some (some (.int 6 t_MOST_LETTERS)))
    (c_MOST_PLACE:nsIn K mainGlobals "MOST_PLACE"=some (some (.int 2 t_MOST_PLACE)))
    (c_MOST_ROOM:nsIn K mainGlobals "MOST_ROOM"=some (some (.int 99 t_MOST_ROOM)))
    (c_MOST_WORDS:nsIn K mainGlobals "MOST_WORDS"=some (some (.int 6 t_MOST_WORDS)))
    (ex:qao K [C0,C1,C2,C3,C4,C5,C6] CW=true)
    (aB:nsIn K mainGlobals "Book"=some (some (.ref CB)))
    (b1:cS K CB Str.empty=true)
    (b2:df K CB=true)
    (b3:dX K CB=true)
    (b4:aK K (.ref CB) "__setattr__"=some (some (.builtin "object.__setattr__")))
    (n0:aK K (.ref CB) "look"=some none)
    (n1:aK K (.ref CB) "width"=some none)
    (n2:aK K (.ref CB) "worths"=some none)
    (n3:aK K (.ref CB) "standing"=some none)
    (n4:aK K (.ref CB) "asked"=some none)
    (sx4:bU K (.ref C4) (.ref C4)=some true)
     :
    Zt K mg (fun x=>.ref (caT [("WordError",CW),("NoWords",C0),("NoLook",C1),("NoRoom",C2),("NoWord",C3),("NoWorths",C4),("Never",C5),("Nothing",C6),("Book",CB)] x)) (caT [("WordError",CW),("NoWords",C0),("NoLook",C1),("NoRoom",C2),("NoWord",C3),("NoWorths",C4),("Never",C5),("Nothing",C6),("Book",CB)])/\qfX (caT [("WordError",CW),("NoWords",C0),("NoLook",C1),("NoRoom",C2),("NoWord",C3),("NoWorths",C4),("Never",C5),("Nothing",C6),("Book",CB)])/\caT [("WordError",CW),("NoWords",C0),("NoLook",C1),("NoRoom",C2),("NoWord",C3),("NoWorths",C4),("Never",C5),("Nothing",C6),("Book",CB)] "Book"=CB:=by
  obtain ⟨nd,al⟩:=qap ex
  generalize hT:([("WordError",CW),("NoWords",C0),("NoLook",C1),("NoRoom",C2),("NoWord",C3),("NoWorths",C4),("Never",C5),("Nothing",C6),("Book",CB)]:List (Str×Addr))=T
  have eW:caT T "WordError"=CW:=by subst hT; kernel_rfl
  have eB:caT T "Book"=CB:=by subst hT; kernel_rfl
  have e0:caT T "NoWords"=C0:=by subst hT; kernel_rfl
  have e1:caT T "NoLook"=C1:=by subst hT; kernel_rfl
  have e2:caT T "NoRoom"=C2:=by subst hT; kernel_rfl
  have e3:caT T "NoWord"=C3:=by subst hT; kernel_rfl
  have e4:caT T "NoWorths"=C4:=by subst hT; kernel_rfl
  have e5:caT T "Never"=C5:=by subst hT; kernel_rfl
  have e6:caT T "Nothing"=C6:=by subst hT; kernel_rfl
  have hm:CS.map (caT T)=[C0,C1,C2,C3,C4,C5,C6]:=by
    unfold CS
    simp only [aA,aT,e0,e1,e2,e3,e4,e5,e6]
  have hin:∀ c∈CS,caT T c∈[C0,C1,C2,C3,C4,C5,C6]:=fun c hc=>hm ▸ aH.mpr ⟨c,hc,rfl⟩
  refine ⟨⟨⟨fun c hc=>rfl,fun c hc=>?_,fun c hc=>(al _ (hin c hc)).1,fun c hc d hd=>(al _ (hin c hc)).2.2.2.2 _ (hin d hd),fun c hc=>(al _ (hin c hc)).2.2.1⟩,fun c hc=>?_,fun c hc=>(al _ (hin c hc)).2.2.2.1,fun x hx=>absurd hx (by simp [FS]),mg_none_of X G z_all,mg_none_of X G z_bool,mg_none_of X G z_dict,mg_none_of X G z_int,mg_none_of X G z_isinstance,mg_none_of X G z_len,mg_none_of X G z_list,mg_none_of X G z_max,mg_none_of X G z_min,mg_none_of X G z_range,mg_none_of X G z_set,mg_none_of X G z_sorted,mg_none_of X G z_str,mg_none_of X G z_sum,mg_none_of X G z_tuple,mg_none_of X G z_zip,⟨_,mg_of X G c_LEAST_PLACE⟩,⟨_,mg_of X G c_MOST_LETTERS⟩,⟨_,mg_of X G c_MOST_PLACE⟩,⟨_,mg_of X G c_MOST_ROOM⟩,⟨_,mg_of X G c_MOST_WORDS⟩,?mB,?bC,?bN,?sX4⟩,?cO,eB⟩
  case mB=>rw [eB]; exact mg_of X G aB
  case bC=>rw [eB]; exact ⟨b1,b2,b3,b4⟩
  case bN=>
    rw [eB]
    intro f hf
    have hf:f = "look"\/f = "width"\/f = "worths"\/f = "standing"\/f = "asked":=by simpa using hf
    rcases hf with rfl | rfl | rfl | rfl | rfl
    · exact n0
    · exact n1
    · exact n2
    · exact n3
    · exact n4
  case sX4=>rw [e4]; exact sx4
  · show bU K (.ref (caT T c)) (.ref (caT T "WordError"))=some true
    rw [eW]
    exact (al _ (hin c hc)).2.1
  · rcases qer hc with rfl | rfl | rfl | rfl | rfl | rfl | rfl
    · rw [e0]; exact mg_of X G a0
    · rw [e1]; exact mg_of X G a1
    · rw [e2]; exact mg_of X G a2
    · rw [e3]; exact mg_of X G a3
    · rw [e4]; exact mg_of X G a4
    · rw [e5]; exact mg_of X G a5
    · rw [e6]; exact mg_of X G a6
  case cO=>
    intro x hx y hy e
    rw [<-hm] at nd
    exact Zq nd hx hy e
structure Tx (K:Frag) (mg:Str->Option Value) (ca:Str->Addr):Prop where
 x_Book_counts:zU K (ca "Book") "counts" "Book.counts" qM ["self"]
 x_Book_undo:zU K (ca "Book") "undo" "Book.undo" kf ["self"]
 x_is_letter:jO K mg "is_letter" wa ["thing"]
 x_is_word:jO K mg "is_word" vO ["thing"]
 x_check_word:jO K mg "check_word" vw ["thing"]
 x_is_between:jO K mg "is_between" vx ["thing", "least", "most"]
 x_check_room:jO K mg "check_room" vz ["thing"]
 x_is_worth:jO K mg "is_worth" ue ["thing", "room"]
 x_is_worths:jO K mg "is_worths" jt ["thing", "room"]
 x_check_worths:jO K mg "check_worths" kl ["thing", "room"]
 x_is_words:jO K mg "is_words" kQ ["thing"]
 x_check_words:jO K mg "check_words" kN ["thing"]
 x_is_look:jO K mg "is_look" vP ["thing"]
 x_check_look:jO K mg "check_look" vA ["thing"]
 x_letter_at:jO K mg "letter_at" wg ["word", "place"]
 x_pairs:jO K mg "pairs" yv ["words", "look"]
 x_letters_of:jO K mg "letters_of" jf ["seen"]
 x_within:jO K mg "within" xw ["total", "room"]
 x_numbered:jO K mg "numbered" jR ["words", "look", "room", "worths"]
 x_Book_found_for:zU K (ca "Book") "found_for" "Book.found_for" qW ["self", "word"]
 x_Book_ask:zU K (ca "Book") "ask" "Book.ask" kR ["self", "word"]
 x_Book___init__:qb4 K (ca "Book") "Book.__init__" jc ["self", "words", "look", "room", "worths"]
 x_Lcell_at:jO K mg "_law_cell_at" ui ["_law_script", "_law_k"]
 x_Lmixed:jO K mg "_law_mixed" xy ["_law_script", "_law_k", "_law_many"]
 x_Ldraw:jO K mg "_law_draw" Qt ["_law_script", "_law_town", "_law_many"]
 x_Lpick:jO K mg "_law_pick" Qu ["_law_script", "_law_town", "_law_some"]
 x_Lat:jO K mg "_law_at" Uu ["_law_word_here", "_law_place"]
 x_Lseen:jO K mg "_law_seen" yz ["_law_words_here", "_law_look_here"]
 x_Lby:jO K mg "_law_by" Uv ["_law_words_here", "_law_look_here", "_law_room", "_law_book"]
 x_Lword:jO K mg "_law_word" yA ["_law_script", "_law_town", "_law_letters_here", "_law_most"]
 x_Lwords:jO K mg "_law_words" xz ["_law_script", "_law_town", "_law_most"]
 x_Llook:jO K mg "_law_look" QA ["_law_script", "_law_town"]
 x_Lletters:jO K mg "_law_letters" uj ["_law_words_here", "_law_look_here"]
 x_Lmade:jO K mg "_law_made" yD ["_law_script", "_law_town", "_law_most", "_law_wide"]
 x_Lgood:jO K mg "_law_good" QB ["_law_script", "_law_town"]
variable {ca:Str->Addr}
theorem qes {P:Program} {w:World} {base:Heap} {cv:Str->Value} {f:Addr} {fd:FuncData} (Z:Zt K mg cv ca) (T:Tx K mg ca) (F:Fun K "law" "law" Vu f fd):FnOk P w K mg base (CXk P w) 9 f fd ["_law_script"] (spL K ca):=by
 have o_Book_counts:=zV (P:=P) (w:=w) (base:=base) Z T.x_Book_counts 
 have o_Book_undo:=JN (P:=P) (w:=w) (base:=base) Z T.x_Book_undo 
 have o_is_letter:=JP (P:=P) (w:=w) (base:=base) Z T.x_is_letter 
 have o_is_word:=Ur (P:=P) (w:=w) (base:=base) Z T.x_is_word o_is_letter
 have o_check_word:=Qh (P:=P) (w:=w) (base:=base) Z T.x_check_word o_is_word
 have o_is_between:=Qj (P:=P) (w:=w) (base:=base) Z T.x_is_between 
 have o_check_room:=Ql (P:=P) (w:=w) (base:=base) Z T.x_check_room o_is_between
 have o_is_worth:=KW (P:=P) (w:=w) (base:=base) Z T.x_is_worth o_is_between o_is_letter
 have o_is_worths:=JQ (P:=P) (w:=w) (base:=base) Z T.x_is_worths o_is_worth
 have o_check_worths:=zp (P:=P) (w:=w) (base:=base) Z T.x_check_worths o_is_worths
 have o_is_words:=KZ (P:=P) (w:=w) (base:=base) Z T.x_is_words o_is_word
 have o_check_words:=zX (P:=P) (w:=w) (base:=base) Z T.x_check_words o_is_words
 have o_is_look:=Ut (P:=P) (w:=w) (base:=base) Z T.x_is_look o_is_between
 have o_check_look:=Qn (P:=P) (w:=w) (base:=base) Z T.x_check_look o_is_look
 have o_letter_at:=JR (P:=P) (w:=w) (base:=base) Z T.x_letter_at 
 have o_pairs:=GO (P:=P) (w:=w) (base:=base) Z T.x_pairs o_check_words o_check_look o_letter_at
 have o_letters_of:=Qp (P:=P) (w:=w) (base:=base) Z T.x_letters_of 
 have o_within:=XD (P:=P) (w:=w) (base:=base) Z T.x_within 
 have o_numbered:=Vd (P:=P) (w:=w) (base:=base) Z T.x_numbered o_check_room o_check_worths o_pairs o_letters_of o_within
 have o_Book_found_for:=yw (P:=P) (w:=w) (base:=base) Z T.x_Book_found_for o_numbered
 have o_Book_ask:=Ve (P:=P) (w:=w) (base:=base) Z T.x_Book_ask o_check_word o_Book_found_for
 have o_Book___init__:=xh (P:=P) (w:=w) (base:=base) Z T.x_Book___init__ o_numbered
 have o_Lcell_at:=Vg (P:=P) (w:=w) (base:=base) Z T.x_Lcell_at 
 have o_Lmixed:=XE (P:=P) (w:=w) (base:=base) Z T.x_Lmixed o_Lcell_at
 have o_Ldraw:=GQ (P:=P) (w:=w) (base:=base) Z T.x_Ldraw o_Lmixed
 have o_Lpick:=GS (P:=P) (w:=w) (base:=base) Z T.x_Lpick o_Ldraw
 have o_Lat:=qd1 (P:=P) (w:=w) (base:=base) Z T.x_Lat 
 have o_Lseen:=GU (P:=P) (w:=w) (base:=base) Z T.x_Lseen o_Lat
 have o_Lby:=qd3 (P:=P) (w:=w) (base:=base) Z T.x_Lby o_Lseen
 have o_Lword:=GX (P:=P) (w:=w) (base:=base) Z T.x_Lword o_Ldraw o_Lpick
 have o_Lwords:=XJ (P:=P) (w:=w) (base:=base) Z T.x_Lwords o_Ldraw o_Lpick o_Lword
 have o_Llook:=GZ (P:=P) (w:=w) (base:=base) Z T.x_Llook o_Ldraw
 have o_Lletters:=Vo (P:=P) (w:=w) (base:=base) Z T.x_Lletters o_Lseen
 have o_Lmade:=qaa (P:=P) (w:=w) (base:=base) Z T.x_Lmade o_Ldraw o_Lpick o_Lwords o_Llook o_Lletters
 have o_Lgood:=qab (P:=P) (w:=w) (base:=base) Z T.x_Lgood o_Lby o_Lmade
 exact qd4 Z F o_Book_counts o_Book_ask o_Book_undo o_Book___init__ o_Ldraw o_Lpick o_Lgood
def qaq (K:Frag):Sp:=fun vs H Q _=>∃ (a:Addr) (ns:List Int),vs=[.ref a]/\SqL K H a (ns.map V.int)/\∀ H',Q (.bl true) H'
theorem WP {F:Hp}:∀ ns:List Int,IsL K F (ns.map V.int) (ns.map D.int)
 | []=>.nil
 | n::ns=>.cons (.int n) (WP ns)
theorem qfA (h:qfX ca) (vs:List V) (H:Hp) (Q:VK) (E:XK) (q:qaq K vs H Q E):spL K ca vs H Q E:=by
 obtain ⟨a,ns,rfl,hs,hq⟩:=q
 obtain ⟨ρ1,ds1,ρ2,fs1,ds2,ρ3,fs2,h1,h2,h3,h4,h5,h6,h7⟩:=qeo (ca:=ca) ns
 refine ⟨H,[scr ns],.ref a,rfl,rfl,Same.refl _,.cons (.lst hs (WP ns)) .nil,ρ1,ds1,ρ2,fs1,ds2,ρ3,fs2,.bl true,h1,h2,h3,h4,h5,⟨by omega,by omega,by omega,by omega⟩,h7,fun v F' H' is=>?_⟩
 cases is
 exact hq H'
abbrev NsX (K:Frag) (x:Str) (f:Addr):Prop:=nsIn K mainGlobals x=some (some (.ref f))
abbrev LkX (K:Frag) (x:Str) (st:Stmt) (f:Addr) (oc:Value) (od an:Option Addr) (sl:Array (Option Value)) (kV dc pm cd ct:Value):Prop:=K.lookup f=some ⟨oc,od,.func (cz x x (ww st) (jz st) (qd st) .none kV dc pm an cd ct),sl⟩
abbrev LkM (K:Frag) (x q:Str) (st:Stmt) (f:Addr) (oc:Value) (od an:Option Addr) (sl:Array (Option Value)) (kV dc pm cd ct:Value):Prop:=K.lookup f=some ⟨oc,od,.func (cz x q (ww st) (jz st) (qd st) .none kV dc pm an cd ct),sl⟩
theorem qet {l:fz} {w:World} {fa:Addr} (X:K.In h) (G:h.Ns mainGlobals mg) (hfa:mg "law"=some (.ref fa)) {CW CB C0 C1 C2 C3 C4 C5 C6:Addr} {t_LEAST_PLACE t_MOST_LETTERS t_MOST_PLACE t_MOST_ROOM t_MOST_WORDS:Tok} {f0:Addr} {v0:Value} {o0 p0:Option Addr} {s0:Array (Option Value)} {g0 h0 i0 j0 m0:Value} {f1:Addr} {v1:Value} {o1 p1:Option Addr} {s1:Array (Option Value)} {g1 h1 i1 j1 m1:Value} {f2:Addr} {v2:Value} {o2 p2:Option Addr} {s2:Array (Option Value)} {g2 h2 i2 j2 m2:Value} {f3:Addr} {v3:Value} {o3 p3:Option Addr} {s3:Array (Option Value)} {g3 h3 i3 j3 m3:Value} {f4:Addr} {v4:Value} {o4 p4:Option Addr} {s4:Array (Option Value)} {g4 h4 i4 j4 m4:Value} {f5:Addr} {v5:Value} {o5 p5:Option Addr} {s5:Array (Option Value)} {g5 h5 i5 j5 m5:Value} {f6:Addr} {v6:Value} {o6 p6:Option Addr} {s6:Array (Option Value)} {g6 h6 i6 j6 m6:Value} {f7:Addr} {v7:Value} {o7 p7:Option Addr} {s7:Array (Option Value)} {g7 h7 i7 j7 m7:Value} {f8:Addr} {v8:Value} {o8 p8:Option Addr} {s8:Array (Option Value)} {g8 h8 i8 j8 m8:Value} {f9:Addr} {v9:Value} {o9 p9:Option Addr} {s9:Array (Option Value)} {g9 h9 i9 j9 m9:Value} {f10:Addr} {v10:Value} {o10 p10:Option Addr} {s10:Array (Option Value)} {g10 h10 i10 j10 m10:Value} {f11:Addr} {v11:Value} {o11 p11:Option Addr} {s11:Array (Option Value)} {g11 h11 i11 j11 m11:Value} {f12:Addr} {v12:Value} {o12 p12:Option Addr} {s12:Array (Option Value)} {g12 h12 i12 j12 m12:Value} {f13:Addr} {v13:Value} {o13 p13:Option Addr} {s13:Array (Option Value)} {g13 h13 i13 j13 m13:Value} {f14:Addr} {v14:Value} {o14 p14:Option Addr} {s14:Array (Option Value)} {g14 h14 i14 j14 m14:Value} {f15:Addr} {v15:Value} {o15 p15:Option Addr} {s15:Array (Option Value)} {g15 h15 i15 j15 m15:Value} {f16:Addr} {v16:Value} {o16 p16:Option Addr} {s16:Array (Option Value)} {g16 h16 i16 j16 m16:Value} {f17:Addr} {v17:Value} {o17 p17:Option Addr} {s17:Array (Option Value)} {g17 h17 i17 j17 m17:Value} {f18:Addr} {v18:Value} {o18 p18:Option Addr} {s18:Array (Option Value)} {g18 h18 i18 j18 m18:Value} {f19:Addr} {v19:Value} {o19 p19:Option Addr} {s19:Array (Option Value)} {g19 h19 i19 j19 m19:Value} {f20:Addr} {v20:Value} {o20 p20:Option Addr} {s20:Array (Option Value)} {g20 h20 i20 j20 m20:Value} {f21:Addr} {v21:Value} {o21 p21:Option Addr} {s21:Array (Option Value)} {g21 h21 i21 j21 m21:Value} {f22:Addr} {v22:Value} {o22 p22:Option Addr} {s22:Array (Option Value)} {g22 h22 i22 j22 m22:Value} {f23:Addr} {v23:Value} {o23 p23:Option Addr} {s23:Array (Option Value)} {g23 h23 i23 j23 m23:Value} {f24:Addr} {v24:Value} {o24 p24:Option Addr} {s24:Array (Option Value)} {g24 h24 i24 j24 m24:Value} {f25:Addr} {v25:Value} {o25 p25:Option Addr} {s25:Array (Option Value)} {g25 h25 i25 j25 m25:Value} {f26:Addr} {v26:Value} {o26 p26:Option Addr} {s26:Array (Option Value)} {g26 h26 i26 j26 m26:Value} {f27:Addr} {v27:Value} {o27 p27:Option Addr} {s27:Array (Option Value)} {g27 h27 i27 j27 m27:Value} {f28:Addr} {v28:Value} {o28 p28:Option Addr} {s28:Array (Option Value)} {g28 h28 i28 j28 m28:Value} {f29:Addr} {v29:Value} {o29 p29:Option Addr} {s29:Array (Option Value)} {g29 h29 i29 j29 m29:Value} {f30:Addr} {v30:Value} {o30 p30:Option Addr} {s30:Array (Option Value)} {g30 h30 i30 j30 m30:Value} {f31:Addr} {v31:Value} {o31 p31:Option Addr} {s31:Array (Option Value)} {g31 h31 i31 j31 m31:Value} {f32:Addr} {v32:Value} {o32 p32:Option Addr} {s32:Array (Option Value)} {g32 h32 i32 j32 m32:Value} {f33:Addr} {v33:Value} {o33 p33:Option Addr} {s33:Array (Option Value)} {g33 h33 i33 j33 m33:Value} {f34:Addr} {v34:Value} {o34 p34:Option Addr} {s34:Array (Option Value)} {g34 h34 i34 j34 m34:Value} {f35:Addr} {v35:Value} {o35 p35:Option Addr} {s35:Array (Option Value)} {g35 h35 i35 j35 m35:Value}
  (aW:nsIn K mainGlobals "WordError"=some (some (.ref CW)))
  (a0:nsIn K mainGlobals "NoWords"=some (some (.ref C0)))
  (a1:nsIn K mainGlobals "NoLook"=some (some (.ref C1)))
  (a2:nsIn K mainGlobals "NoRoom"=some (some (.ref C2)))
  (a3:nsIn K mainGlobals "NoWord"=some (some (.ref C3)))
  (a4:nsIn K mainGlobals "NoWorths"=some (some (.ref C4)))
  (a5:nsIn K mainGlobals "Never"=some (some (.ref C5)))
  (a6:nsIn K mainGlobals "Nothing"=some (some (.ref C6)))
  (z_all:nsIn K mainGlobals "all"=some none)
  (z_bool:nsIn K mainGlobals "bool"=some none)
  (z_dict:nsIn K mainGlobals "dict"=some none)
  (z_int:nsIn K mainGlobals "int"=some none)
  (z_isinstance:nsIn K mainGlobals "isinstance"=some none)
  (z_len:nsIn K mainGlobals "len"=some none)
  (z_list:nsIn K mainGlobals "list"=some none)
  (z_max:nsIn K mainGlobals "max"=some none)
  (z_min:nsIn K mainGlobals "min"=some none)
  (z_range:nsIn K mainGlobals "range"=some none)
  (z_set:nsIn K mainGlobals "set"=some none)
  (z_sorted:nsIn K mainGlobals "sorted"=some none)
  (z_str:nsIn K mainGlobals "str"=some none)
  (z_sum:nsIn K mainGlobals "sum"=some none)
  (z_tuple:nsIn K mainGlobals "tuple"=some none)
  (z_zip:nsIn K mainGlobals "zip"=some none)
  (c_LEAST_PLACE:nsIn K mainGlobals "LEAST_PLACE"=some (some (.int (-3) t_LEAST_PLACE)))
  (c_MOST_LETTERS:nsIn K mainGlobals "MOST_LETTERS"=some (some (.int 6 t_MOST_LETTERS)))
  (c_MOST_PLACE:nsIn K mainGlobals "MOST_PLACE"=some (some (.int 2 t_MOST_PLACE)))
  (c_MOST_ROOM:nsIn K mainGlobals "MOST_ROOM"=some (some (.int 99 t_MOST_ROOM)))
  (c_MOST_WORDS:nsIn K mainGlobals "MOST_WORDS"=some (some (.int 6 t_MOST_WORDS)))
  (ex:qao K [C0,C1,C2,C3,C4,C5,C6] CW=true)
  (aB:nsIn K mainGlobals "Book"=some (some (.ref CB)))
  (b1:cS K CB Str.empty=true)
  (b2:df K CB=true)
  (b3:dX K CB=true)
  (b4:aK K (.ref CB) "__setattr__"=some (some (.builtin "object.__setattr__")))
  (n0:aK K (.ref CB) "look"=some none)
  (n1:aK K (.ref CB) "width"=some none)
  (n2:aK K (.ref CB) "worths"=some none)
  (n3:aK K (.ref CB) "standing"=some none)
  (n4:aK K (.ref CB) "asked"=some none)
  (sx4:bU K (.ref C4) (.ref C4)=some true)
  (b_0:aK K (.ref CB) "counts"=some (some (.ref f0))) (l_0:LkM K "counts" "Book.counts" qM f0 v0 o0 p0 s0 g0 h0 i0 j0 m0) (d_0:codeIn K j0 "Book.counts"=true) (k_0:keepIn K (.ref f0)=true) (q_0:cW K (.ref f0)=true)
  (b_1:aK K (.ref CB) "undo"=some (some (.ref f1))) (l_1:LkM K "undo" "Book.undo" kf f1 v1 o1 p1 s1 g1 h1 i1 j1 m1) (d_1:codeIn K j1 "Book.undo"=true) (k_1:keepIn K (.ref f1)=true) (q_1:cW K (.ref f1)=true)
  (b_2:NsX K "is_letter" f2) (l_2:LkX K "is_letter" wa f2 v2 o2 p2 s2 g2 h2 i2 j2 m2) (d_2:codeIn K j2 "is_letter"=true) (k_2:keepIn K (.ref f2)=true)
  (b_3:NsX K "is_word" f3) (l_3:LkX K "is_word" vO f3 v3 o3 p3 s3 g3 h3 i3 j3 m3) (d_3:codeIn K j3 "is_word"=true) (k_3:keepIn K (.ref f3)=true)
  (b_4:NsX K "check_word" f4) (l_4:LkX K "check_word" vw f4 v4 o4 p4 s4 g4 h4 i4 j4 m4) (d_4:codeIn K j4 "check_word"=true) (k_4:keepIn K (.ref f4)=true)
  (b_5:NsX K "is_between" f5) (l_5:LkX K "is_between" vx f5 v5 o5 p5 s5 g5 h5 i5 j5 m5) (d_5:codeIn K j5 "is_between"=true) (k_5:keepIn K (.ref f5)=true)
  (b_6:NsX K "check_room" f6) (l_6:LkX K "check_room" vz f6 v6 o6 p6 s6 g6 h6 i6 j6 m6) (d_6:codeIn K j6 "check_room"=true) (k_6:keepIn K (.ref f6)=true)
  (b_7:NsX K "is_worth" f7) (l_7:LkX K "is_worth" ue f7 v7 o7 p7 s7 g7 h7 i7 j7 m7) (d_7:codeIn K j7 "is_worth"=true) (k_7:keepIn K (.ref f7)=true)
  (b_8:NsX K "is_worths" f8) (l_8:LkX K "is_worths" jt f8 v8 o8 p8 s8 g8 h8 i8 j8 m8) (d_8:codeIn K j8 "is_worths"=true) (k_8:keepIn K (.ref f8)=true)
  (b_9:NsX K "check_worths" f9) (l_9:LkX K "check_worths" kl f9 v9 o9 p9 s9 g9 h9 i9 j9 m9) (d_9:codeIn K j9 "check_worths"=true) (k_9:keepIn K (.ref f9)=true)
  (b_10:NsX K "is_words" f10) (l_10:LkX K "is_words" kQ f10 v10 o10 p10 s10 g10 h10 i10 j10 m10) (d_10:codeIn K j10 "is_words"=true) (k_10:keepIn K (.ref f10)=true)
  (b_11:NsX K "check_words" f11) (l_11:LkX K "check_words" kN f11 v11 o11 p11 s11 g11 h11 i11 j11 m11) (d_11:codeIn K j11 "check_words"=true) (k_11:keepIn K (.ref f11)=true)
  (b_12:NsX K "is_look" f12) (l_12:LkX K "is_look" vP f12 v12 o12 p12 s12 g12 h12 i12 j12 m12) (d_12:codeIn K j12 "is_look"=true) (k_12:keepIn K (.ref f12)=true)
  (b_13:NsX K "check_look" f13) (l_13:LkX K "check_look" vA f13 v13 o13 p13 s13 g13 h13 i13 j13 m13) (d_13:codeIn K j13 "check_look"=true) (k_13:keepIn K (.ref f13)=true)
  (b_14:NsX K "letter_at" f14) (l_14:LkX K "letter_at" wg f14 v14 o14 p14 s14 g14 h14 i14 j14 m14) (d_14:codeIn K j14 "letter_at"=true) (k_14:keepIn K (.ref f14)=true)
  (b_15:NsX K "pairs" f15) (l_15:LkX K "pairs" yv f15 v15 o15 p15 s15 g15 h15 i15 j15 m15) (d_15:codeIn K j15 "pairs"=true) (k_15:keepIn K (.ref f15)=true)
  (b_16:NsX K "letters_of" f16) (l_16:LkX K "letters_of" jf f16 v16 o16 p16 s16 g16 h16 i16 j16 m16) (d_16:codeIn K j16 "letters_of"=true) (k_16:keepIn K (.ref f16)=true)
  (b_17:NsX K "within" f17) (l_17:LkX K "within" xw f17 v17 o17 p17 s17 g17 h17 i17 j17 m17) (d_17:codeIn K j17 "within"=true) (k_17:keepIn K (.ref f17)=true)
  (b_18:NsX K "numbered" f18) (l_18:LkX K "numbered" jR f18 v18 o18 p18 s18 g18 h18 i18 j18 m18) (d_18:codeIn K j18 "numbered"=true) (k_18:keepIn K (.ref f18)=true)
  (b_19:aK K (.ref CB) "found_for"=some (some (.ref f19))) (l_19:LkM K "found_for" "Book.found_for" qW f19 v19 o19 p19 s19 g19 h19 i19 j19 m19) (d_19:codeIn K j19 "Book.found_for"=true) (k_19:keepIn K (.ref f19)=true) (q_19:cW K (.ref f19)=true)
  (b_20:aK K (.ref CB) "ask"=some (some (.ref f20))) (l_20:LkM K "ask" "Book.ask" kR f20 v20 o20 p20 s20 g20 h20 i20 j20 m20) (d_20:codeIn K j20 "Book.ask"=true) (k_20:keepIn K (.ref f20)=true) (q_20:cW K (.ref f20)=true)
  (b_21:aK K (.ref CB) "__init__"=some (some (.ref f21))) (l_21:LkM K "__init__" "Book.__init__" jc f21 v21 o21 p21 s21 g21 h21 i21 j21 m21) (d_21:codeIn K j21 "Book.__init__"=true) (k_21:keepIn K (.ref f21)=true) (q_21:cW K (.ref f21)=true) (y1:fy K CB=true) (y2:keepIn K (.ref CB)=true)
  (b_22:NsX K "_law_cell_at" f22) (l_22:LkX K "_law_cell_at" ui f22 v22 o22 p22 s22 g22 h22 i22 j22 m22) (d_22:codeIn K j22 "_law_cell_at"=true) (k_22:keepIn K (.ref f22)=true)
  (b_23:NsX K "_law_mixed" f23) (l_23:LkX K "_law_mixed" xy f23 v23 o23 p23 s23 g23 h23 i23 j23 m23) (d_23:codeIn K j23 "_law_mixed"=true) (k_23:keepIn K (.ref f23)=true)
  (b_24:NsX K "_law_draw" f24) (l_24:LkX K "_law_draw" Qt f24 v24 o24 p24 s24 g24 h24 i24 j24 m24) (d_24:codeIn K j24 "_law_draw"=true) (k_24:keepIn K (.ref f24)=true)
  (b_25:NsX K "_law_pick" f25) (l_25:LkX K "_law_pick" Qu f25 v25 o25 p25 s25 g25 h25 i25 j25 m25) (d_25:codeIn K j25 "_law_pick"=true) (k_25:keepIn K (.ref f25)=true)
  (b_26:NsX K "_law_at" f26) (l_26:LkX K "_law_at" Uu f26 v26 o26 p26 s26 g26 h26 i26 j26 m26) (d_26:codeIn K j26 "_law_at"=true) (k_26:keepIn K (.ref f26)=true)
  (b_27:NsX K "_law_seen" f27) (l_27:LkX K "_law_seen" yz f27 v27 o27 p27 s27 g27 h27 i27 j27 m27) (d_27:codeIn K j27 "_law_seen"=true) (k_27:keepIn K (.ref f27)=true)
  (b_28:NsX K "_law_by" f28) (l_28:LkX K "_law_by" Uv f28 v28 o28 p28 s28 g28 h28 i28 j28 m28) (d_28:codeIn K j28 "_law_by"=true) (k_28:keepIn K (.ref f28)=true)
  (b_29:NsX K "_law_word" f29) (l_29:LkX K "_law_word" yA f29 v29 o29 p29 s29 g29 h29 i29 j29 m29) (d_29:codeIn K j29 "_law_word"=true) (k_29:keepIn K (.ref f29)=true)
  (b_30:NsX K "_law_words" f30) (l_30:LkX K "_law_words" xz f30 v30 o30 p30 s30 g30 h30 i30 j30 m30) (d_30:codeIn K j30 "_law_words"=true) (k_30:keepIn K (.ref f30)=true)
  (b_31:NsX K "_law_look" f31) (l_31:LkX K "_law_look" QA f31 v31 o31 p31 s31 g31 h31 i31 j31 m31) (d_31:codeIn K j31 "_law_look"=true) (k_31:keepIn K (.ref f31)=true)
  (b_32:NsX K "_law_letters" f32) (l_32:LkX K "_law_letters" uj f32 v32 o32 p32 s32 g32 h32 i32 j32 m32) (d_32:codeIn K j32 "_law_letters"=true) (k_32:keepIn K (.ref f32)=true)
  (b_33:NsX K "_law_made" f33) (l_33:LkX K "_law_made" yD f33 v33 o33 p33 s33 g33 h33 i33 j33 m33) (d_33:codeIn K j33 "_law_made"=true) (k_33:keepIn K (.ref f33)=true)
  (b_34:NsX K "_law_good" f34) (l_34:LkX K "_law_good" QB f34 v34 o34 p34 s34 g34 h34 i34 j34 m34) (d_34:codeIn K j34 "_law_good"=true) (k_34:keepIn K (.ref f34)=true)
  (b_35:NsX K "law" f35) (l_35:LkX K "law" Vu f35 v35 o35 p35 s35 g35 h35 i35 j35 m35) (d_35:codeIn K j35 "law"=true) (k_35:keepIn K (.ref f35)=true) :
  ∃ fd:FuncData,(∀ (s:Shared) (v:Value),BindsTo s fd ⟨[v],[]⟩ [("_law_script",v)])/\∀ base:Heap,K.In base->base.Ns mainGlobals mg->FnOk l.prog w K mg base (CXk l.prog w) 9 fa fd ["_law_script"] (qaq K):=by
 have e:=hfa.symm.trans (mg_of X G b_35)
 cases e
 obtain ⟨Z,cok,eB⟩:=qfz X G aW a0 a1 a2 a3 a4 a5 a6 z_all z_bool z_dict z_int z_isinstance z_len z_list z_max z_min z_range z_set z_sorted z_str z_sum z_tuple z_zip c_LEAST_PLACE c_MOST_LETTERS c_MOST_PLACE c_MOST_ROOM c_MOST_WORDS ex aB b1 b2 b3 b4 n0 n1 n2 n3 n4 sx4
 have T:Tx K mg (caT [("WordError",CW),("NoWords",C0),("NoLook",C1),("NoRoom",C2),("NoWord",C3),("NoWorths",C4),("Never",C5),("Nothing",C6),("Book",CB)]):=⟨by rw [eB]; exact ⟨f0,_,(vK (st:=qM) l_0 d_0 k_0),⟨b_0,q_0,k_0⟩,(vK (st:=qM) l_0 d_0 k_0).binds (fun _ _ _ _ _ _ us hl=>by revert hl; refine fun hl=>UC (P:=fun us=>bindArgs _ ⟨us,[]⟩=pure (aV _ us)) hl ?_; intros; rfl)⟩,by rw [eB]; exact ⟨f1,_,(vK (st:=kf) l_1 d_1 k_1),⟨b_1,q_1,k_1⟩,(vK (st:=kf) l_1 d_1 k_1).binds (fun _ _ _ _ _ _ us hl=>by revert hl; refine fun hl=>UC (P:=fun us=>bindArgs _ ⟨us,[]⟩=pure (aV _ us)) hl ?_; intros; rfl)⟩,qI X G (fun _ _ _ _ _ _ us hl=>by revert hl; refine fun hl=>UC (P:=fun us=>bindArgs _ ⟨us,[]⟩=pure (aV _ us)) hl ?_; intros; rfl) b_2 l_2 d_2 k_2,qI X G (fun _ _ _ _ _ _ us hl=>by revert hl; refine fun hl=>UC (P:=fun us=>bindArgs _ ⟨us,[]⟩=pure (aV _ us)) hl ?_; intros; rfl) b_3 l_3 d_3 k_3,qI X G (fun _ _ _ _ _ _ us hl=>by revert hl; refine fun hl=>UC (P:=fun us=>bindArgs _ ⟨us,[]⟩=pure (aV _ us)) hl ?_; intros; rfl) b_4 l_4 d_4 k_4,qI X G (fun _ _ _ _ _ _ us hl=>by revert hl; refine fun hl=>qcL (P:=fun us=>bindArgs _ ⟨us,[]⟩=pure (aV _ us)) hl ?_; intros; rfl) b_5 l_5 d_5 k_5,qI X G (fun _ _ _ _ _ _ us hl=>by revert hl; refine fun hl=>UC (P:=fun us=>bindArgs _ ⟨us,[]⟩=pure (aV _ us)) hl ?_; intros; rfl) b_6 l_6 d_6 k_6,qI X G (fun _ _ _ _ _ _ us hl=>by revert hl; refine fun hl=>VG (P:=fun us=>bindArgs _ ⟨us,[]⟩=pure (aV _ us)) hl ?_; intros; rfl) b_7 l_7 d_7 k_7,qI X G (fun _ _ _ _ _ _ us hl=>by revert hl; refine fun hl=>VG (P:=fun us=>bindArgs _ ⟨us,[]⟩=pure (aV _ us)) hl ?_; intros; rfl) b_8 l_8 d_8 k_8,qI X G (fun _ _ _ _ _ _ us hl=>by revert hl; refine fun hl=>VG (P:=fun us=>bindArgs _ ⟨us,[]⟩=pure (aV _ us)) hl ?_; intros; rfl) b_9 l_9 d_9 k_9,qI X G (fun _ _ _ _ _ _ us hl=>by revert hl; refine fun hl=>UC (P:=fun us=>bindArgs _ ⟨us,[]⟩=pure (aV _ us)) hl ?_; intros; rfl) b_10 l_10 d_10 k_10,qI X G (fun _ _ _ _ _ _ us hl=>by revert hl; refine fun hl=>UC (P:=fun us=>bindArgs _ ⟨us,[]⟩=pure (aV _ us)) hl ?_; intros; rfl) b_11 l_11 d_11 k_11,qI X G (fun _ _ _ _ _ _ us hl=>by revert hl; refine fun hl=>UC (P:=fun us=>bindArgs _ ⟨us,[]⟩=pure (aV _ us)) hl ?_; intros; rfl) b_12 l_12 d_12 k_12,qI X G (fun _ _ _ _ _ _ us hl=>by revert hl; refine fun hl=>UC (P:=fun us=>bindArgs _ ⟨us,[]⟩=pure (aV _ us)) hl ?_; intros; rfl) b_13 l_13 d_13 k_13,qI X G (fun _ _ _ _ _ _ us hl=>by revert hl; refine fun hl=>VG (P:=fun us=>bindArgs _ ⟨us,[]⟩=pure (aV _ us)) hl ?_; intros; rfl) b_14 l_14 d_14 k_14,qI X G (fun _ _ _ _ _ _ us hl=>by revert hl; refine fun hl=>VG (P:=fun us=>bindArgs _ ⟨us,[]⟩=pure (aV _ us)) hl ?_; intros; rfl) b_15 l_15 d_15 k_15,qI X G (fun _ _ _ _ _ _ us hl=>by revert hl; refine fun hl=>UC (P:=fun us=>bindArgs _ ⟨us,[]⟩=pure (aV _ us)) hl ?_; intros; rfl) b_16 l_16 d_16 k_16,qI X G (fun _ _ _ _ _ _ us hl=>by revert hl; refine fun hl=>VG (P:=fun us=>bindArgs _ ⟨us,[]⟩=pure (aV _ us)) hl ?_; intros; rfl) b_17 l_17 d_17 k_17,qI X G (fun _ _ _ _ _ _ us hl=>by revert hl; refine fun hl=>qeq (P:=fun us=>bindArgs _ ⟨us,[]⟩=pure (aV _ us)) hl ?_; intros; rfl) b_18 l_18 d_18 k_18,by rw [eB]; exact ⟨f19,_,(vK (st:=qW) l_19 d_19 k_19),⟨b_19,q_19,k_19⟩,(vK (st:=qW) l_19 d_19 k_19).binds (fun _ _ _ _ _ _ us hl=>by revert hl; refine fun hl=>VG (P:=fun us=>bindArgs _ ⟨us,[]⟩=pure (aV _ us)) hl ?_; intros; rfl)⟩,by rw [eB]; exact ⟨f20,_,(vK (st:=kR) l_20 d_20 k_20),⟨b_20,q_20,k_20⟩,(vK (st:=kR) l_20 d_20 k_20).binds (fun _ _ _ _ _ _ us hl=>by revert hl; refine fun hl=>VG (P:=fun us=>bindArgs _ ⟨us,[]⟩=pure (aV _ us)) hl ?_; intros; rfl)⟩,by rw [eB]; exact ⟨f21,_,(vK (st:=jc) l_21 d_21 k_21),⟨y1,b_21,q_21,y2⟩,(vK (st:=jc) l_21 d_21 k_21).binds (fun _ _ _ _ _ _ us hl=>by revert hl; refine fun hl=>qgv (P:=fun us=>bindArgs _ ⟨us,[]⟩=pure (aV _ us)) hl ?_; intros; rfl)⟩,qI X G (fun _ _ _ _ _ _ us hl=>by revert hl; refine fun hl=>VG (P:=fun us=>bindArgs _ ⟨us,[]⟩=pure (aV _ us)) hl ?_; intros; rfl) b_22 l_22 d_22 k_22,qI X G (fun _ _ _ _ _ _ us hl=>by revert hl; refine fun hl=>qcL (P:=fun us=>bindArgs _ ⟨us,[]⟩=pure (aV _ us)) hl ?_; intros; rfl) b_23 l_23 d_23 k_23,qI X G (fun _ _ _ _ _ _ us hl=>by revert hl; refine fun hl=>qcL (P:=fun us=>bindArgs _ ⟨us,[]⟩=pure (aV _ us)) hl ?_; intros; rfl) b_24 l_24 d_24 k_24,qI X G (fun _ _ _ _ _ _ us hl=>by revert hl; refine fun hl=>qcL (P:=fun us=>bindArgs _ ⟨us,[]⟩=pure (aV _ us)) hl ?_; intros; rfl) b_25 l_25 d_25 k_25,qI X G (fun _ _ _ _ _ _ us hl=>by revert hl; refine fun hl=>VG (P:=fun us=>bindArgs _ ⟨us,[]⟩=pure (aV _ us)) hl ?_; intros; rfl) b_26 l_26 d_26 k_26,qI X G (fun _ _ _ _ _ _ us hl=>by revert hl; refine fun hl=>VG (P:=fun us=>bindArgs _ ⟨us,[]⟩=pure (aV _ us)) hl ?_; intros; rfl) b_27 l_27 d_27 k_27,qI X G (fun _ _ _ _ _ _ us hl=>by revert hl; refine fun hl=>qeq (P:=fun us=>bindArgs _ ⟨us,[]⟩=pure (aV _ us)) hl ?_; intros; rfl) b_28 l_28 d_28 k_28,qI X G (fun _ _ _ _ _ _ us hl=>by revert hl; refine fun hl=>qeq (P:=fun us=>bindArgs _ ⟨us,[]⟩=pure (aV _ us)) hl ?_; intros; rfl) b_29 l_29 d_29 k_29,qI X G (fun _ _ _ _ _ _ us hl=>by revert hl; refine fun hl=>qcL (P:=fun us=>bindArgs _ ⟨us,[]⟩=pure (aV _ us)) hl ?_; intros; rfl) b_30 l_30 d_30 k_30,qI X G (fun _ _ _ _ _ _ us hl=>by revert hl; refine fun hl=>VG (P:=fun us=>bindArgs _ ⟨us,[]⟩=pure (aV _ us)) hl ?_; intros; rfl) b_31 l_31 d_31 k_31,qI X G (fun _ _ _ _ _ _ us hl=>by revert hl; refine fun hl=>VG (P:=fun us=>bindArgs _ ⟨us,[]⟩=pure (aV _ us)) hl ?_; intros; rfl) b_32 l_32 d_32 k_32,qI X G (fun _ _ _ _ _ _ us hl=>by revert hl; refine fun hl=>qeq (P:=fun us=>bindArgs _ ⟨us,[]⟩=pure (aV _ us)) hl ?_; intros; rfl) b_33 l_33 d_33 k_33,qI X G (fun _ _ _ _ _ _ us hl=>by revert hl; refine fun hl=>VG (P:=fun us=>bindArgs _ ⟨us,[]⟩=pure (aV _ us)) hl ?_; intros; rfl) b_34 l_34 d_34 k_34⟩
 have F:=vK (st:=Vu) l_35 d_35 k_35
 exact ⟨_,fun s v=>.of_eq rfl,fun base _ _=>(qes (P:=l.prog) (w:=w) (base:=base) Z T F).imp fun vs H Q E q=>qfA cok vs H Q E q⟩
theorem qgw {l:fz} {q:Program} {loose:List Str} {XP:(Str->Option Value)->Heap->Prop} {YP:World->Heap->Prop} {d:DefRec} {K:Params->Frag} (hn:l.most=some 63) (hdf:d.params.defaults=[])
  (hY:∀ (w:World) (h:Heap),YP w h->(K w.params).In h)
  (F:∀ (w:World) (mg:Str->Option Value) (fa:Addr) (h:Heap),(K w.params).In h->h.Ns mainGlobals mg->mg d.name=some (.ref fa) ->
   ∃ fd:FuncData,(∀ (s:Shared) (u:Value),BindsTo s fd ⟨[u],[]⟩ [("_law_script",u)])/\∀ base:Heap,(K w.params).In base->base.Ns mainGlobals mg->FnOk l.prog w (K w.params) mg base (CXk l.prog w) 9 fa fd ["_law_script"] (qaq (K w.params))) :
  PySem.W.WalkO q loose XP YP l.row.toRowW d [] (fun f vs=>fM f vs):=
 L2.qbv (n:=63) (k:=9) (x := "_law_script") (CX:=fun w=>CXk l.prog w) (sp:=fun w=>qaq (K w.params)) hn (by decide) hdf ⟨rfl,by decide,by decide⟩ hY F (fun _ _ a ns hl _ hS=>⟨a,ns,rfl,hS,fun _=>rfl⟩) fun w H s e s' z=>by
  obtain ⟨ex,T,C,H',_,_,_,_,_,_,_,_,_,_,q⟩:=z
  exact q.elim
end Kx
open PySem PySem.W PyProof.Rows
set_option maxRecDepth 100000 in
set_option maxHeartbeats 0 in
theorem PySem.Challenge.cw_lookwords_k38_whole_two_books_holds : PySem.Challenge.rw_lookwords_k38_whole_two_books.Holds := by
  refine Kx.hd ?_
  k_fill
  refine Kx.qgw (l := PySem.Challenge.rw_lookwords_k38_whole_two_books) rfl rfl (fun w h Y => PySem.W.kIn_of Y) ?F
  case F =>
    intro w mg fa h KX G hmg
    refine' Kx.qet KX G hmg ?_ ?_ ?_ ?_ ?_ ?_ ?_ ?_ ?_ ?_ ?_ ?_ ?_ ?_ ?_ ?_ ?_ ?_ ?_ ?_ ?_ ?_ ?_ ?_ ?_ ?_ ?_ ?_ ?_ ?_ ?_ ?_ ?_ ?_ ?_ ?_ ?_ ?_ ?_ ?_ ?_ ?_ ?_ ?_ ?_ ?_ ?_ ?_ ?_ ?_ ?_ ?_ ?_ ?_ ?_ ?_ ?_ ?_ ?_ ?_ ?_ ?_ ?_ ?_ ?_ ?_ ?_ ?_ ?_ ?_ ?_ ?_ ?_ ?_ ?_ ?_ ?_ ?_ ?_ ?_ ?_ ?_ ?_ ?_ ?_ ?_ ?_ ?_ ?_ ?_ ?_ ?_ ?_ ?_ ?_ ?_ ?_ ?_ ?_ ?_ ?_ ?_ ?_ ?_ ?_ ?_ ?_ ?_ ?_ ?_ ?_ ?_ ?_ ?_ ?_ ?_ ?_ ?_ ?_ ?_ ?_ ?_ ?_ ?_ ?_ ?_ ?_ ?_ ?_ ?_ ?_ ?_ ?_ ?_ ?_ ?_ ?_ ?_ ?_ ?_ ?_ ?_ ?_ ?_ ?_ ?_ ?_ ?_ ?_ ?_ ?_ ?_ ?_ ?_ ?_ ?_ ?_ ?_ ?_ ?_ ?_ ?_ ?_ ?_ ?_ ?_ ?_ ?_ ?_ ?_ ?_ ?_ ?_ ?_ ?_ ?_ ?_ ?_ ?_ ?_ ?_ ?_ ?_ ?_ ?_ ?_ ?_ ?_ ?_ ?_ ?_ ?_
    all_goals try first | k_is | (unfold Kx.NsX; k_is) | (unfold Kx.LkX; k_is) | (unfold Kx.LkM; k_is) | kernel_rfl

