import PyProof.Rows.All
import KE.KTryMore
import KE.KDictOf
import KE.KItem
import KE.KRevIter
import KE.KDictList
import PySem.Challenge.RW_lookwords_k10_whole_worths_at
open List renaming mem_cons_of_mem→aa,mem_cons→ac,length_append→af,mem_map→ah,mem_cons_self→ai,mem_append→aj,length_cons→ao,getElem?_set_ne→aq,mem_singleton→au,size_toArray→aw,length_map→ay,getElem?_eq_some_iff→aA,getElem?_eq_getElem→aC,getElem?_set_self→aE,getElem?_map→aF,map_cons→aG,nodup_cons→aI,range→aJ,mem_append_right→aK,append_assoc→aM,mem_of_getElem?→aP,pairwise_cons→aS,Nodup→aX,append_nil→aY,all_eq_true→ba,not_mem_nil→bb,find?_cons_of_neg→bt,replicate→bu,length_nil→bv,getElem?_append_right→bA,find?_cons_of_pos→bC,map_map→bD,mem_of_find?_eq_some→bG,mem_range→bJ,mem_filter→bK,mem_append_left→bP,getElem?_replicate→bQ,map_nil→bT,nodup_append→bV,foldl_cons→bW,nil_append→bX,getElem?_append_left→bY,getElem?_eq_none→bZ,getElem_mem→ce,reverse_cons→cj,length_range→cm,map_append→cu,filterMap_cons→cx,any_cons→cK,length_pos_iff→cO,replicate_zero→cP,nodup_nil→cS,length_pos_of_mem→cX,length_set→cY,find?_cons→cZ,length_replicate→c7,length_filter_le→c8,pairwise_flatMap→db,flatMap_cons→df,pairwise_map→dg,mem_reverse→dn,map_congr_left→dt,find?_eq_none→dI,length_eq_zero_iff→dL,getElem?_cons_succ→dN,getElem?_cons_zero→dO,ext_getElem?→dW,getElem?_toArray→dY,lookup_cons→dZ,mem_iff_getElem→d8,of_mem_zip→d9,filter_eq_self→eh,length_reverse→ei,mem_filterMap→eu,foldl_append→eG,getElem_inj→eQ,length_take→eR,cons_append→eT,mem_flatMap→eU,zipIdx_cons→eV,find?_some→fj,length→fm,zip→fy,all_cons→fA
open PySem.Heap renaming get?_push_of_some→ae,get?_push_size→ak,lt_size→ap,get?_update_self→bh,SameBut→bL,get?_update_other→cy,size_push→cA
open Or renaming inl→ax,inr→bB
open Nat renaming le_refl→aB,ne_of_lt→aD,lt_of_lt_of_le→aH,le_trans→be,zero_le→bq,lt_irrefl→bR,ne_of_gt→cf,le_of_lt→cU,lt_trans→cV,le_of_eq→dR,sub_self→et,le_succ→eC,lt_succ_of_lt→eF,mod_lt→eY,succ_mul→eZ,mul_comm→fI
open PySem.PassesOwn renaming leaving→aL
open PySem.Value renaming bool→aN,ref→bO,none→cz,builtin→c6,isStrOf→eL,str→eO,type→eX,int→fz
open Option renaming map_eq_some_iff→aO,some→bc,bind_eq_some_iff→ci,isSome_map→eE
open PySem.Around renaming under_plainId→aQ
open Bool renaming and_eq_true→aR,false_ne_true→br
open Ne renaming symm→aU
open PySem.Str renaming ofString→aV,length→fF
open PySem.W renaming hideAll→aZ,emptyDict→bS,kitOne→bU,fnOf→cg,instObj→cF,kia_one→cG,hideAll_none→cH,hideAll_get→cN,exmOne→dj,excIn→dB,of_hideAll→dF,cellsFrom_some→dS,methodObj→ez,OpenLaw→fg,lookIn→fk
open PySem renaming strKind→bf,mem_of_lookup→bn,call→fK
open PySem.Builtin.List renaming listExtendWith→bg,listSameRef→cM,listTooLong→dA
open Array renaming getElem?_toList→bi,getElem?_eq_getElem→bF,length_toList→bH,getElem?_eq_none→cW,mk→fH
open Sum renaming inr→bj,inl→d4
open PySem.SetTable renaming below→bo,grown→cR,orStandIn→dH,laid→fE
open Int renaming emod_eq_of_lt→bp,emod_lt_of_pos→bN,emod_nonneg→cw,eq_ofNat_of_zero_le→cT,dvd_self_sub_emod→c9,dvd_sub→dm,dvd_of_emod_eq_zero→dP,emod_eq_zero_of_dvd→dQ,dvd_add→eI,mul_assoc→eN,one_mul→fq,mul_sub→fJ
open PySem.Builtin.Frozenset renaming updateFrom→bw,isAnySet→cC
open PySem.NameKind renaming free→bx
open PyProof.Rows renaming callWith_type1→bz
open Classical renaming byContradiction→bE
open PySem.Heap.SameBut renaming update→bI
open PySem.F renaming called_set→bM,plainAttrs_list→ck,slot_tuple_getattribute→dq,args_tuple_add_2→dw,slot_list_getattribute→dD,entry_tuple_add→dJ,slot_tuple_add→dU,slot_dict_get→dX
open False renaming elim→cc
open PySem.SeqAt renaming ne_of_list_tuple→cq,EqAt→fL
open ForInStep renaming yield→cr
open List.Perm renaming refl→cB
open Eq renaming trans→cE
open List.Pairwise renaming imp→cI,imp_of_mem→dE,nil→eD,map→eJ
open PySem.Obj renaming mapSeq→cJ,putSet→fG
open PySem.Builtin.Dict renaming updateFrom→cQ
open True renaming intro→dh
open PySem.Calls renaming spliced_cons→dG,evalArgs_plain→d7,spliced_nil→eB
open PyProof.Rows.F renaming plain_set_update_loop→dM
open PySem.Shared renaming TypeIs→d6
open PySem.Paired renaming length→eM
open PySem.Txt renaming join→eS
open PySem.Heap.DictOf renaming new→fh
open PySem.Expr renaming Constant→fB
open PySem.W.KF renaming type_class→fC
noncomputable section
open PySem.W (Frag nsIn keepIn codeIn mg_of mg_none_of)
set_option Elab.async false
set_option linter.all false
set_option maxRecDepth 100000
namespace Kx
noncomputable section
open PySem PySem.W PySem.Calls PyProof.Rows
noncomputable def zP:Pos:=⟨0,0,0,0⟩
noncomputable def anV:Option Value:=some (.ref 6)
noncomputable def hA (P:Params):List Obj:=(boot_heap P).objs.toList++[⟨.type "tuple",none,.seq #[] 0,#[]⟩,⟨.none,none,.fields #[],#[]⟩,
 ⟨.type "code",none,.fields #[.str "<module>" 182,.str "<module>" 183,.str "/claim/cut.py" 184,.int 1 0,.int 0 0,.int 0 0,.int 0 0,.int 0 0,.ref 11,.bool false,.int 181 0,.ref 12,.none,.none,.none,.none,.int 185 0,.int 1 0,.str "/claim/cut.py" 186],#[]⟩,
 ⟨.type "frame",none,.plain,#[some (.ref 13),some (.ref 3),some (.ref 3),none,some (.str "__main__" 164),none,some (.ref 0)]⟩]
noncomputable def enP (p:Program):Env:={ scope:=p.main.scope,locals:=mainNs,globals:=mainNs,cells:=[],code:=.ref 13,frame:=some 14 }
noncomputable def cdP (p:Program):Code:=.body (behindTheImports p) (enP p)
noncomputable def trA:List Obj->Nat->BT->BT
 | [],_,t=>t
 | o::l,i,t=>trA l (i+1) (t.ins i o)
noncomputable def SA (w:World) (os:OsState):SharedT:=⟨trA (hA w.params) 0 .nil,15,(boot_heap w.params).life,fH [],boot_drawn,187,os⟩
noncomputable def qfK (p:Program) (w:World) (M:Nat) (os:OsState):Option (Flow×Code×Shared):=
 (segRunT treeTable p w 11 anV 1 M (SA w os) (piecesOf (behindTheImports p) (enP p) (cdP p) zP [topFrame zP])).bind fun r=>
  (topRun treeTable p w 11 anV 5 r.2.1.abs (restOf [] (enP p) (cdP p) r.2.2.2 [topFrame zP])).map fun s=>(r.1,r.2.2.1,s)
abbrev qbJ (p q:Program) (loose:List Str) (Xt:Shared->Bool) (w:World) (x:Flow×Code×Shared):=
 (x.1,x.2.1,(staticsOk (importedModules p.main.body) (boot_heap w.params) x.2.2.heap&&namesBound p x.2.2.heap&&gensDone x.2.2&&laidKept (boot_heap w.params) x.2.2.heap),openSeen q loose (importedModules p.main.body) Xt true x.2.2)
theorem left_T {p q:Program} {loose:List Str} {Xt:Shared->Bool} {α:Type} {Yf:Shared->α} {Ya:World->α} {N M:Nat}
  (e:opening p=plainProg p.main.scope.names) (hN:Nat.ble 600 N=true) (f:∀ s,fenceModules? p s=some s)
  (size:∀ w:World,((boot_heap w.params).isNs mainGlobals&&(fH []:Array GenState).size == 0,(boot_heap w.params).objs.size,(boot_heap w.params).nsMap mainGlobals "__annotations__")=(true,11,anV))
  (pre:∀ (w:World) (os:OsState),topGo treeTable p w 11 anV 12 ⟨boot_heap w.params,fH [],boot_drawn,boot_toks,os⟩ (topStub p)=some ((SA w os).abs,⟨denote treeTable (cdP p),cdP p,zP,[topFrame zP]⟩))
  (blk:∀ (w:World) (os:OsState),segRun treeTable p w 11 anV 1 1 (SA w os).abs (blockOf (behindTheImports p) (enP p) (cdP p) zP [topFrame zP])=some (.next,(SA w os).abs,cdP p,zP))
  (le:Nat.ble (12+(1+(M+5))) N=true)
  (m1:∀ (w:World) (os:OsState),(qfK p w M os).map (qbJ p q loose Xt w)=some (.next,cdP p,true,openGood q loose))
  (m2:∀ (w:World) (os:OsState),(qfK p w M os).map (fun x=>Yf x.2.2)=some (Ya w)):LeftO p q loose Xt Yf Ya N:=fun w=>by
 obtain ⟨⟨h,gs,d,k,os⟩,a,a'⟩:=aO.mp (boot_open e hN f w)
 obtain ⟨rfl,rfl,rfl,rfl⟩:h=boot_heap w.params/\gs=fH []/\d=boot_drawn/\k=boot_toks:=by simpa using a'
 obtain ⟨x,hx,hl⟩:=aO.mp (m1 w os)
 obtain ⟨y,hy,hY⟩:=aO.mp (m2 w os)
 obtain rfl:y=x:=bc.inj (hy.symm.trans hx)
 obtain ⟨r,hr,hz⟩:=ci.mp hx
 obtain ⟨s,hs,rfl⟩:=aO.mp hz
 obtain ⟨fl,st,co,po⟩:=r
 unfold qbJ at hl
 simp only [Prod.mk.injEq] at hl
 obtain ⟨rfl,rfl,l1,l2⟩:=hl
 have t1:=piece_app (rest:=[]) (segRun_of hr) hs
 rw [aY] at t1
 have t2:=piece_block (blk w os) t1
 have t3:=topRun_mono (N - (12+(1+(M+5)))) _ _ _ _ (go_top (pre w os) t2)
 rw [show 12+(1+(M+5))+(N - (12+(1+(M+5))))=N by have:=Nat.le_of_ble_eq_true le; omega] at t3
 obtain ⟨z1,z2,z3⟩:_/\_/\_:=by simpa only [Prod.mk.injEq] using size w
 have t:topFrom treeTable p w N ⟨boot_heap w.params,fH [],boot_drawn,boot_toks,os⟩=some s:=by
  unfold topFrom
  dsimp only
  rw [z1,z2,z3,t3]
  show (match staticsOk (importedModules p.main.body) (boot_heap w.params) s.heap&&namesBound p s.heap&&gensDone s&&laidKept (boot_heap w.params) s.heap with | true=>_ | false=>_)=_
  rw [l1]
 unfold openEnds
 rw [a]
 show (topFrom treeTable p w N _).map _=_
 rw [t]
 exact congrArg some (Prod.ext l2 hY)
end
end Kx
noncomputable section
open PySem PySem.W PyProof.Rows
noncomputable def Kx.vq:Program:=view PySem.Challenge.pw_lookwords_k10_whole_worths_at [1,2,3,4,5,6,7,8,9,10,11,12,13,14,16,17,18,19,20,21,22,23,24,25,26,27,28,29,30,32,33,34,36,37,38,39,40,41,42,43,44,45,46,47,48,49,50,52,53,54,56,57,58,59,60,61,62,63,64,65,66,67,68,69,70,71]
noncomputable def Kx.xt (s:Shared):Bool:=xlAt Kx.vq [] s&&recOk (RowW.records (OpenRow.toRowW (OpenLaw.row PySem.Challenge.rw_lookwords_k10_whole_worths_at))) s
theorem Kx.m1:∀ (w:World) (os:OsState),(Kx.qfK PySem.Challenge.pw_lookwords_k10_whole_worths_at w 15000 os).map (Kx.qbJ PySem.Challenge.pw_lookwords_k10_whole_worths_at Kx.vq [] Kx.xt w)=some (.next,Kx.cdP PySem.Challenge.pw_lookwords_k10_whole_worths_at,true,openGood Kx.vq []):=by intro w os; kernel_rfl
local macro_rules | `(tactic| o_head $H) => `(tactic| (refine holds_open (q := Kx.vq) (loose := []) (Xt := Kx.xt) (XP := XL Kx.vq []) (Yf := Hook.obs $H) (Ya := Hook.val $H) (YP := Hook.says $H) (N := 20000) ?hl (Hook.of $H) (Hook.keeps $H) (fun s e => xl_of s (Bool.and_eq_true_iff.mp e).1) XL.keeps (by rfl) (by rfl) (by rfl) (fun s e => recFacts_of (Bool.and_eq_true_iff.mp e).2) (by rfl) (by first | assumption | decide +kernel) (by decide +kernel) ⟨rfl, rfl, rfl, rfl, rfl, by decide +kernel⟩ ?hw ?hc; (case hl => refine Kx.left_T (p := PySem.Challenge.pw_lookwords_k10_whole_worths_at) (M := 15000) ?e rfl ?f ?s ?p ?b rfl Kx.m1 ?m; (case e => kernel_rfl); (case f => intro s; kernel_rfl); (case s => intro w; kernel_rfl); (case p => intro w os; kernel_rfl); (case b => intro w os; kernel_rfl); (case m => intro w os; kernel_rfl))))
set_option maxHeartbeats 0 in
open_top Kx.hd for PySem.Challenge.rw_lookwords_k10_whole_worths_at
end
namespace L2
open PySem PySem.Spec PyProof.Rows
abbrev Key:=Sum Int Str
noncomputable def yO:Key->Value->Bool
 | .inl k,v=>Value.isInt k v
 | .inr x,v=>eL x v
noncomputable def qhm (w:World):Key->Int
 | .inl k=>hashInt k
 | .inr x=>hashStr w x
theorem jm:∀ {k:Key} {v:Value},yO k v=true->(∃ i t,k=d4 i/\v=fz i t)\/(∃ x t,k=bj x/\v=eO x t)
 | .inl i,v,h=>by
  obtain ⟨t,e⟩:=Value.isInt_shape (k:=i) (v:=v) h
  exact .inl ⟨i,t,rfl,e⟩
 | .inr x,v,h=>by
  obtain ⟨t,e⟩:=Value.isStrOf_shape (x:=x) (v:=v) h
  exact .inr ⟨x,t,rfl,e⟩
theorem JA (i:Int) (t:Tok):yO (.inl i) (.int i t)=true:=by simp [yO,Value.isInt]
theorem JB (x:Str) (t:Tok):yO (.inr x) (.str x t)=true:=by simp [yO,eL]
theorem qdv (a b:Int):decide ((d4 a:Key)=d4 b)=(a == b):=by
 by_cases e:a=b
 ·subst e; simp
 ·have h:¬(d4 a:Key)=d4 b:=fun q=>e (d4.inj q)
  rw [decide_eq_false h]
  exact (beq_eq_false_iff_ne.mpr e).symm
theorem qdw (a b:Str):decide ((bj a:Key)=bj b)=decide (a=b):=by
 by_cases e:a=b
 ·subst e; simp
 ·have h:¬(bj a:Key)=bj b:=fun q=>e (bj.inj q)
  rw [decide_eq_false h,decide_eq_false e]
theorem qdx (a:Int) (b:Str):decide ((d4 a:Key)=bj b)=false:=decide_eq_false (fun q=>nomatch q)
theorem qdy (a:Str) (b:Int):decide ((bj a:Key)=d4 b)=false:=decide_eq_false (fun q=>nomatch q)
noncomputable def qQ (prog:Program) (w:World):PySem.KeyKind prog w Key where
 is:=yO
 hash:=qhm w
 inj:=fun v a b ha hb=>by
  rcases jm ha with ⟨i,t,rfl,rfl⟩ | ⟨x,t,rfl,rfl⟩
  ·rcases jm hb with ⟨j,u,rfl,e⟩ | ⟨y,u,rfl,e⟩
   ·injection e with e1 _; rw [e1]
   ·exact nomatch e
  ·rcases jm hb with ⟨j,u,rfl,e⟩ | ⟨y,u,rfl,e⟩
   ·exact nomatch e
   ·injection e with e1 _; rw [e1]
 byValue:=fun k v h=>by
  rcases jm h with ⟨i,t,rfl,rfl⟩ | ⟨x,t,rfl,rfl⟩ <;> rfl
 pyHash:=fun hv h=>by
  rcases jm hv with ⟨i,t,rfl,rfl⟩ | ⟨x,t,rfl,rfl⟩
  ·exact wpAny_pyHash_int h
  ·exact wpAny_pyHash_str h
 eqBool:=fun hu hv h=>by
  rcases jm hu with ⟨i,t,rfl,rfl⟩ | ⟨x,t,rfl,rfl⟩
  ·rcases jm hv with ⟨j,u,rfl,rfl⟩ | ⟨y,u,rfl,rfl⟩
   ·rw [qdv] at h; exact wpAny_eqBool_int h
   ·rw [qdx] at h; exact SeqAt.EqAt.int_str i t y u _ _ _ _ h
  ·rcases jm hv with ⟨j,u,rfl,rfl⟩ | ⟨y,u,rfl,rfl⟩
   ·rw [qdy] at h; exact SeqAt.EqAt.str_int x t j u _ _ _ _ h
   ·rw [qdw] at h; exact wpAny_eqBool_str h
 «strs»:=fun k x t v h=>by
  rcases jm h with ⟨i,u,rfl,e⟩ | ⟨y,u,rfl,e⟩
  ·exact nomatch e
  ·injection e with e1 _
   subst e1
   cases v <;> rfl
theorem KS (prog:Program) (w:World) (i:Int) (t:Tok):(qQ prog w).is (.inl i) (.int i t)=true:=JA i t
theorem KU (prog:Program) (w:World) (x:Str) (t:Tok):(qQ prog w).is (.inr x) (.str x t)=true:=JB x t
inductive V where
 | non | bl (b:Bool) | int (i:Int) | str (x:Str) | byt (b:Array UInt8) | flt (b:UInt64) | ref (a:Addr) | ty (n:String)
 deriving DecidableEq
def RelV:V->Value->Prop
 | .non,u=>u=cz
 | .bl b,u=>u=aN b
 | .int i,u=>∃ t,u=fz i t
 | .str x,u=>∃ t,u=eO x t
 | .byt b,u=>∃ t,u=Value.bytes b t
 | .flt b,u=>∃ t,u=Value.float b t
 | .ref a,u=>u=bO a
 | .ty n,u=>u=eX n
abbrev Vals:List V->List Value->Prop:=Paired RelV
variable {xs:List V} {us:List Value}
theorem Vals.length (r:Vals xs us):xs.length=us.length:=eM r
theorem Vals.get:∀ {xs:List V} {us:List Value} {i:Nat} {x:V},Vals xs us->xs[i]?=some x->∃ u,us[i]?=some u/\RelV x u
 | _,_,_,_,.nil,e=>by simp at e
 | _,_,0,_,.cons r _,e=>by simp at e; subst e; exact ⟨_,rfl,r⟩
 | _,_,i+1,x,.cons _ t,e=>by
  obtain ⟨u,h1,h2⟩:=Vals.get (i:=i) (x:=x) t (by simpa using e)
  exact ⟨u,by simpa using h1,h2⟩
variable {u:Value}
theorem Vals.set {x:V} (r:RelV x u):∀ {xs:List V} {us:List Value} (i:Nat),Vals xs us->Vals (xs.set i x) (us.set i u)
 | _,_,_,.nil=>.nil
 | _,_,0,.cons _ t=>.cons r t
 | _,_,i+1,.cons q t=>.cons q (Vals.set r i t)
theorem Vals.append:∀ {xs ys:List V} {us ws:List Value},Vals xs us->Vals ys ws->Vals (xs++ys) (us++ws)
 | _,_,_,_,.nil,s=>s
 | _,_,_,_,.cons r t,s=>.cons r (Vals.append t s)
theorem Vals.take:∀ {xs:List V} {us:List Value} (n:Nat),Vals xs us->Vals (xs.take n) (us.take n)
 | _,_,0,_=>.nil
 | _,_,_+1,.nil=>.nil
 | _,_,n+1,.cons r t=>.cons r (Vals.take n t)
def RelO:Option V->Option Value->Prop
 | some v,some u=>RelV v u
 | none,none=>True
 | _,_=>False
def KV {κ:Type}:List (κ×V)->List (κ×Value)->Prop:=Paired fun (p:κ×V) (q:κ×Value)=>p.1=q.1/\RelV p.2 q.2
noncomputable def kV:Key->V
 | .inl i=>.int i
 | .inr x=>.str x
inductive HO where
 /-- a list -/
 | lst (xs:List V)
 /-- a tuple (never changes) -/
 | tup (xs:List V)
 /-- a dict whose keys are ints and texts; one whose keys are tuples of ints and texts (the empty one is both) -/
 | dK (kvs:List (Key×V)) | dT (kvs:List (List Key×V))
 /-- a set of ints: its members,its size -/
 | set (S:Int->Bool) (n:Nat)
 /-- an instance of the class at C,its dict at dx,its attributes -/
 | ins (C dx:Addr) (fs:List (Str×V))
 /-- the dict of the instance at x -/
 | own (x:Addr)
 /-- the dict of an exception -/
 | xd (fs:List (Str×V))
 /-- a bound method,f of x -/
 | met (f x:Addr)
 /-- a range object lo,lo+1,.. below hi -/
 | rng (lo hi:Int)
 /-- a thing that is known to the object (the script; a dict while a loop walks it): read,never written while it is so -/
 | frz (o:Obj) (u:HO)
 /-- a code object's table -/
 | tbl (ps:Array Value)
 /-- any other thing,by what is true of its one object (a def of one's own: SetO a S n:=HO.ext fun h=>..) -/
 | ext (φ:Heap->Prop)
abbrev Hp:=Addr->Option HO
noncomputable def upd (H:Hp) (a:Addr) (o:HO):Hp:=fun b=>if b=a then some o else H b
variable {H:Hp} {a:Addr} {o:HO}
theorem qr:upd H a o a=some o:=by unfold upd; rw [if_pos rfl]
variable {b:Addr}
theorem qB (h:b≠a):upd H a o b=H b:=by unfold upd; rw [if_neg h]
theorem qfL {u:HO} (h:H a=some o) (h':H b=some u) (d:o≠u):a≠b:=by
 intro e; subst e; rw [h] at h'; exact d (bc.inj h')
theorem qI (h:H a=some o) (h':H b=none):a≠b:=by
 intro e; subst e; rw [h] at h'; cases h'
section
variable (P:Program) (w:World)
def ObjOk (H:Hp) (h:Heap) (a:Addr):HO->Prop
 | .lst xs=>xs.length<=sizeLine/\∃ (its:List Value) (n:Nat),Vals xs its/\h.get? a=some { cls:=.type "list",data:=.seq its.toArray n }
 | .tup xs=>(xs.length<=sizeLine/\∃ o,h.get? a=some o/\o.dict=none)/\∃ its:List Value,Vals xs its/\IsTup h a its.toArray
 | .dK kvs=>kvs.length<=sizeLine/\(a == sysModules)=false/\∃ vs,KV kvs vs/\h.DictOf (qQ P w) a vs
 | .dT kvs=>kvs.length<=sizeLine/\(a == sysModules)=false/\∃ xs:List (List Key×Addr×Value),
   Paired (fun (p:List Key×V) (q:List Key×Addr×Value)=>p.1=q.1/\H q.2.1=some (.tup (p.1.map kV))/\RelV p.2 q.2.2) kvs xs /\
   ∃ o es ep,h.get? a=some o/\o.ExactDict/\o.data=.dict es ep/\es.toList=xs.map (entryOfKey (tupleKind (qQ P w)))/\(xs.map (·.1)).Nodup
 | .set S n=>h.SetOf (intKind P w) a S n
 | .ins C dx fs=>H dx=some (.own a)/\fs.length<=1000/\dx≠a/\h.get? a=some (cF C dx) /\
   ∃ mA,h.Ns1 dx mA/\(∀ f,RelO (fs.lookup f) (mA f))/\PySem.Within mA (fs.map (·.1))
 | .own _=>∃ o,h.get? a=some o
 | .xd fs=>∃ mA,h.Ns1 a mA/\∀ f,RelO (fs.lookup f) (mA f)
 | .rng lo hi=>∃ t u v,h.get? a=some { cls:=.type "range",data:=.fields #[.int lo t,.int hi u,.int 1 v] }
 | .frz o u=>h.get? a=some o/\ObjOk H h a u
 | .tbl ps=>h.get? a=some { cls:=.none,data:=.fields ps }
 | .met f x=>h.get? a=some (ez (.ref f) (.ref x))
 | .ext φ=>φ h/\(∃ o,h.get? a=some o)/\∀ h1 h2:Heap,φ h1->(∀ o,h1.get? a=some o->h2.get? a=some o)->φ h2
def HOk (H:Hp) (h:Heap):Prop:=∀ a o,H a=some o->ObjOk P w H h a o
end
variable {P:Program} {w:World} {H':Hp} {h h':Heap} {α:Type}
section
theorem ObjOk.lt (x:ObjOk P w H h a o):a < h.objs.size:=by
 cases o with
 | lst xs=>obtain ⟨_,_,_,_,e⟩:=x; exact ap e
 | tup xs=>obtain ⟨_,_,_,p⟩:=x; exact p.lt
 | dK kvs=>obtain ⟨_,_,_,_,o,_,_,e,_⟩:=x; exact ap e
 | dT kvs=>obtain ⟨_,_,_,_,o,_,_,e,_⟩:=x; exact ap e
 | set S n=>obtain ⟨o,_,_,_,e,_⟩:=x; exact ap e
 | ins C dx fs=>obtain ⟨_,_,_,e,_⟩:=x; exact ap e
 | own y=>obtain ⟨_,e⟩:=x; exact ap e
 | xd fs=>obtain ⟨_,⟨_,_,_,e,_⟩,_⟩:=x; exact ap e
 | rng lo hi=>obtain ⟨_,_,_,e⟩:=x; exact ap e
 | frz ob u=>obtain ⟨e,_⟩:=x; exact ap e
 | tbl ps=>exact ap (show h.get? a=some _ from x)
 | met f y=>exact ap (show h.get? a=some _ from x)
 | ext φ=>obtain ⟨_,⟨_,e⟩,_⟩:=x; exact ap e
theorem Paired.mapP {β:Type} {F G:α->β->Prop}:∀ {l₁:List α} {l₂:List β},Paired F l₁ l₂->(∀ a b,F a b->G a b)->Paired G l₁ l₂
 | _,_,.nil,_=>.nil
 | _,_,.cons r t,f=>.cons (f _ _ r) (Paired.mapP t f)
theorem ObjOk.stay (x:ObjOk P w H h a o) (k:∀ b u,(b=a\/H b=some (.own a))->h.get? b=some u->h'.get? b=some u)
  (ho:∀ b,H b=some (.own a)->H' b=some (.own a)) (ht:∀ b xs,H b=some (.tup xs)->H' b=some (.tup xs)):ObjOk P w H' h' a o:=by
 induction o with
 | lst xs=>obtain ⟨z,its,n,r,e⟩:=x; exact ⟨z,its,n,r,k _ _ (.inl rfl) e⟩
 | tup xs=>obtain ⟨⟨z,o2,e2,d2⟩,its,r,ob,e,c⟩:=x; exact ⟨⟨z,o2,k _ _ (.inl rfl) e2,d2⟩,its,r,ob,k _ _ (.inl rfl) e,c⟩
 | dK kvs=>obtain ⟨z,y,vs,r,ob,es,ep,e,c⟩:=x; exact ⟨z,y,vs,r,ob,es,ep,k _ _ (.inl rfl) e,c⟩
 | dT kvs=>
  obtain ⟨z,y,xs,r,ob,es,ep,e,c⟩:=x
  exact ⟨z,y,xs,Paired.mapP r fun p q z=>⟨z.1,ht _ _ z.2.1,z.2.2⟩,ob,es,ep,k _ _ (.inl rfl) e,c⟩
 | set S n=>obtain ⟨ob,es,ep,t,e,c⟩:=x; exact ⟨ob,es,ep,t,k _ _ (.inl rfl) e,c⟩
 | ins C dx fs=>
  obtain ⟨d,z,ne,e,mA,⟨od,es,ep,e2,c⟩,r⟩:=x
  exact ⟨ho _ d,z,ne,k _ _ (.inl rfl) e,mA,⟨od,es,ep,k _ _ (.inr d) e2,c⟩,r⟩
 | own y=>obtain ⟨ob,e⟩:=x; exact ⟨ob,k _ _ (.inl rfl) e⟩
 | xd fs=>obtain ⟨mA,⟨od,es,ep,e,c⟩,r⟩:=x; exact ⟨mA,⟨od,es,ep,k _ _ (.inl rfl) e,c⟩,r⟩
 | rng lo hi=>obtain ⟨t,u,v,e⟩:=x; exact ⟨t,u,v,k _ _ (.inl rfl) e⟩
 | frz ob u ih=>obtain ⟨e,q⟩:=x; exact ⟨k _ _ (.inl rfl) e,ih q⟩
 | tbl ps=>
  have e:h.get? a=some { cls:=.none,data:=.fields ps }:=x
  show h'.get? a=some { cls:=.none,data:=.fields ps }
  exact k a _ (.inl rfl) e
 | met f y=>
  have e:h.get? a=some (ez (.ref f) (.ref y)):=x
  show h'.get? a=some (ez (.ref f) (.ref y))
  exact k a _ (.inl rfl) e
 | ext φ=>obtain ⟨p,⟨o,e⟩,st⟩:=x; exact ⟨st _ _ p fun o q=>k _ _ (.inl rfl) q,⟨o,k _ _ (.inl rfl) e⟩,st⟩
theorem HOk.lt (x:HOk P w H h) (e:H a=some o):a < h.objs.size:=(x a o e).lt
theorem HOk.fresh (x:HOk P w H h) (e:h.objs.size<=a):H a=none:=by
 cases q:H a with
 | none=>rfl
 | some u=>exact absurd (aH (x.lt q) e) (bR _)
theorem HOk.kept (x:HOk P w H h) (k:∀ b u,h.get? b=some u->h'.get? b=some u):HOk P w H h':=fun a o e=>
 (x a o e).stay (fun b u _ q=>k b u q) (fun _ q=>q) fun _ _ q=>q
theorem HOk.laid (x:HOk P w H h) (k:∀ b u,h.get? b=some u->h'.get? b=some u) (hp:h.objs.size<=a) (new:ObjOk P w (upd H a o) h' a o):HOk P w (upd H a o) h':=fun b u e=>by
 have hn:=x.fresh hp
 by_cases hb:b=a
 ·subst hb; rw [qr] at e; cases e; exact new
 ·rw [qB hb] at e
  exact (x b u e).stay (fun c v _ q=>k c v q) (fun c q=>by rw [qB (qI q hn)]; exact q) fun c xs q=>by rw [qB (qI q hn)]; exact q
end
def Rd (H:Hp) (a:Addr) (u:HO):Prop:=H a=some u\/∃ o,H a=some (.frz o u)
theorem Rd.ok {u:HO} (r:Rd H a u) (x:HOk P w H h):ObjOk P w H h a u:=by
 rcases r with r | ⟨o,r⟩
 ·exact x a u r
 ·obtain ⟨_,q⟩:=x a _ r
  exact q
def Mut:Option HO->Prop
 | some (.lst _)=>True
 | some (.dK _)=>True
 | some (.dT _)=>True
 | some (.set _ _)=>True
 | some (.ins _ _ _)=>True
 | some (.ext _)=>True
 | _=>False
section
variable {x e:Addr} {o':HO}
theorem HOk.write (ok:HOk P w H h) (mu:Mut (H x)) (he:e=x\/H e=some (.own x)) (k:∀ b u,b≠e->h.get? b=some u->h'.get? b=some u) (heo:∃ u,h'.get? e=some u)
  (new:ObjOk P w (upd H x o') h' x o'):HOk P w (upd H x o') h':=fun b u q=>by
 have nown:∀ c y,H c=some (.own y)->c≠x:=fun c y r z=>by subst z; rw [r] at mu; exact mu
 have ntup:∀ c xs,H c=some (.tup xs)->c≠x:=fun c xs r z=>by subst z; rw [r] at mu; exact mu
 by_cases hb:b=x
 ·subst hb; rw [qr] at q; cases q; exact new
 ·rw [qB hb] at q
  by_cases hbe:b=e
  ·have q':H b=some (.own x):=by
    rcases he with z | z
    ·exact absurd (hbe.trans z) hb
    ·rw [hbe]; exact z
   rw [q] at q'; cases q'
   obtain ⟨v,hv⟩:=heo
   exact ⟨v,by rw [hbe]; exact hv⟩
  ·refine (ok b u q).stay (fun c v hc r=>k c v ?_ r) (fun c r=>by rw [qB (nown c b r)]; exact r) fun c xs r=>by rw [qB (ntup c xs r)]; exact r
   rcases hc with rfl | hc
   ·exact hbe
   ·rintro rfl
    rcases he with z | z
    ·exact nown c b hc z
    ·rw [hc] at z; cases z; exact hb rfl
end
structure Un (fs ex:List Addr) (H H':Hp) (h h':Heap):Prop where
 keep:∀ b o,h.get? b=some o->H b=none->b∉fs->b∉ex->h'.get? b=some o
 slot:∀ b o,h.get? b=some o->H b=none->b∈fs->b∉ex->∃ sl,h'.get? b=some { o with slots:=sl }
 free:∀ b o,h.get? b=some o->H b=none->b∉ex->H' b=none
 there:∀ b o,h.get? b=some o->b∉ex->∃ o',h'.get? b=some o'
 tups:∀ b xs,H b=some (.tup xs)->H' b=some (.tup xs)
 frzs:∀ b o u,H b=some (.frz o u)->H' b=some (.frz o u)
 tbls:∀ b ps,H b=some (.tbl ps)->∃ more,H' b=some (.tbl (ps++more))
section
variable {fs fs' ex ex':List Addr} {H1 H2:Hp} {h1 h2:Heap} {x e:Addr}
theorem Un.any (u:Un fs ex H H1 h h1) {ob:Obj} (q:h.get? b=some ob) (n:H b=none) (hx:b∉ex):∃ sl,h1.get? b=some { ob with slots:=sl }:=by
 by_cases hb:b∈fs
 ·exact u.slot b ob q n hb hx
 ·exact ⟨ob.slots,u.keep b ob q n hb hx⟩
theorem Un.kept (k:∀ b u,h.get? b=some u->h'.get? b=some u):Un fs ex H H h h':=
 ⟨fun b ob q _ _ _=>k b ob q,fun b ob q _ _ _=>⟨ob.slots,k b ob q⟩,fun _ _ _ n _=>n,fun b ob q _=>⟨ob,k b ob q⟩,fun _ _ q=>q,fun _ _ _ q=>q,fun _ ps q=>⟨#[],by rw [q]; simp⟩⟩
theorem Un.refl:Un fs ex H H h h:=Un.kept fun _ _ q=>q
theorem Un.laid (k:∀ b u,h.get? b=some u->h'.get? b=some u) (hp:h.objs.size<=a) (hn:H a=none):Un fs ex H (upd H a o) h h' where
 keep:=fun b u q _ _ _=>k b u q
 slot:=fun b u q _ _ _=>⟨u.slots,k b u q⟩
 free:=fun b u q n _=>by rw [qB (aD (aH (ap q) hp))]; exact n
 there:=fun b u q _=>⟨u,k b u q⟩
 tups:=fun b xs q=>by rw [qB (qI q hn)]; exact q
 frzs:=fun b u xs q=>by rw [qB (qI q hn)]; exact q
 tbls:=fun b ps q=>⟨#[],by rw [qB (qI q hn),q]; simp⟩
theorem Un.write (mu:Mut (H x)) (he:e=x\/H e=some (.own x)) (k:∀ b u,b≠e->h.get? b=some u->h'.get? b=some u) (heo:∃ u,h'.get? e=some u):Un fs ex H (upd H x o) h h':=by
 have hx:∀ b,H b=none->b≠x:=fun b n z=>by subst z; rw [n] at mu; exact mu
 have hb:∀ b,H b=none->b≠e:=fun b n z=>by
  subst z
  rcases he with r | r
  ·exact hx b n r
  ·rw [n] at r; cases r
 have hm:∀ b u,H b=some u->¬Mut (some u)->b≠x:=fun b u q nm z=>by subst z; rw [q] at mu; exact nm mu
 refine ⟨fun b u q n _ _=>k b u (hb b n) q,fun b u q n _ _=>⟨u.slots,k b u (hb b n) q⟩,fun b u q n _=>by rw [qB (hx b n)]; exact n,fun b u q _=>?_,
  fun b xs q=>by rw [qB (hm b _ q fun z=>z)]; exact q,fun b u xs q=>by rw [qB (hm b _ q fun z=>z)]; exact q,fun b ps q=>⟨#[],by rw [qB (hm b _ q fun z=>z),q]; simp⟩⟩
 by_cases hbe:b=e
 ·subst hbe; exact heo
 ·exact ⟨u,k b u hbe q⟩
end
noncomputable def trk (h:Heap) (H:Hp):List Addr:=(aJ h.objs.size).filter fun a=>(H a).isSome
noncomputable def Gg (h:Heap) (H:Hp):Heap:=aZ h (trk h H)
theorem Yj (h:Heap) (H:Hp):(Gg h H).objs.size=h.objs.size:=PySem.W.hideAll_size _ _
theorem Gh {o:Obj} (e:h.get? b=some o) (n:H b=none):(Gg h H).get? b=some o:=
 cN _ e fun hm=>by
  have q:(H b).isSome=true:=(bK.mp hm).2
  rw [n] at q; simp at q
theorem qbK {o:Obj} (e:(Gg h H).get? b=some o):h.get? b=some o/\H b=none:=by
 have e':h.get? b=some o:=dF (trk h H) e
 refine ⟨e',?_⟩
 cases q:H b with
 | none=>rfl
 | some x=>
  have hm:b∈trk h H:=bK.mpr ⟨bJ.mpr (ap e'),by simp [q]⟩
  have z:(Gg h H).get? b=none:=cH (trk h H) hm
  rw [z] at e; cases e
noncomputable def qbL (g h:Heap) (L:Addr):List (Addr×Obj):=(aJ h.objs.size).filterMap fun a=>if a=L\/(g.get? a).isSome=true then none else (h.get? a).map fun o=>(a,o)
noncomputable def rest (g h:Heap) (L d:Addr):List (Addr×Obj):=(qbL g h L).filter fun p=>decide (p.1≠d)
structure Mod (K:Frag) (mg:Str->Option Value) (base:Heap):Prop where
 kin:K.In base
 glob:base.Ns mainGlobals mg
 blt:∃ mb,base.Ns builtinsNs mb/\∀ x:Str,x ≠ "__name__"->mb x=bootBuiltins x
 nolimit:base.NoLimit
structure Cx where
 prog:Program
 w:World
 K:Frag
 mg:Str->Option Value
 base:Heap
 A:Around
 N:List Str
 s₀:Shared
 H₀:Hp
 env:Env
 outer:List Env
 stack:List Env
 ex:List Addr
 fn:Str->Bool
 calm:Bool
 pn:List (Addr×Obj)
 xe:Value->Shared->Prop
noncomputable def frs (l:List Env):List Addr:=l.filterMap (·.frame)
abbrev Cx.fs (X:Cx):List Addr:=frs X.outer
def Vis (sc:Scope) (x:Str):Prop:=sc.names.lookup x=some .local\/sc.names.lookup x=some .cell\/sc.names.lookup x=some .free
def Loc (sc:Scope) (x:Str):Prop:=sc.names.lookup x=some .local\/sc.names.lookup x=some .cell
def Jx (env:Env) (h:Heap) (m:Str->Option Value) (x:Str) (u:Value):Prop:=
 (env.kindOf x=some .local/\m x=some u)\/((env.kindOf x=some .cell\/env.kindOf x=some .free)/\∃ c,env.cells.lookup x=some c/\h.IsCell c (some u))
structure Cx.Ok (X:Cx):Prop where
 mod:Mod X.K X.mg X.base
 kind:X.env.scope.kind=.function
 glob:X.env.globals=mainGlobals
 blt:X.env.builtins=builtinsNs
 above:X.s₀.heap.objs.size<=X.env.locals
 inj:∀ x y c,X.env.cells.lookup x=some c->X.env.cells.lookup y=some c->x=y
 has:∀ x,(X.env.kindOf x=some .cell\/X.env.kindOf x=some .free)->∃ c,X.env.cells.lookup x=some c
 cab:∀ x c,X.fn x=true->X.env.cells.lookup x=some c->X.s₀.heap.objs.size<=c
 hd:X.calm=true->X.A.handled=none
 frames:X.A.frames=some X.stack
 stk:X.stack=X.outer\/(X.stack=X.env::X.outer/\X.env.frame=some X.env.locals)
 exf:∀ b∈X.ex,b≠X.env.locals/\∀ x c,X.env.cells.lookup x=some c->c≠b
 bs:∀ b o,X.base.get? b=some o->X.s₀.heap.get? b=some o/\X.H₀ b=none
 bsz:X.base.objs.size<=X.s₀.heap.objs.size
 noex:∀ b o,X.base.get? b=some o->b∉X.ex
 exfs:∀ b∈X.ex,b∉X.fs
 funs:X.s₀.heap.FunFrames X.base X.outer
 frf:∀ b∈X.fs,X.H₀ b=none
structure Inv (X:Cx) (pins:List (Addr×Obj)) (σ:List (Option V)) (H:Hp) (s:Shared):Prop where
 ok:X.Ok
 os:s.os=X.s₀.os
 bare:AllBare s.gens
 base:Un X.fs X.ex X.H₀ H X.s₀.heap s.heap
 loc:∃ m,s.heap.Ns X.env.locals m/\∀ (i:Nat) (x:Str) (v:V),X.N[i]?=some x->σ[i]?=some (some v)->Vis X.env.scope x->∃ u,RelV v u/\Jx X.env s.heap m x u
 cell:∀ x c,X.env.cells.lookup x=some c->∃ v,s.heap.IsCell c v
 free:H X.env.locals=none
 freeC:∀ x c,X.env.cells.lookup x=some c->H c=none
 pin:∀ p∈X.pn++pins,s.heap.get? p.1=some p.2/\H p.1=none/\p.1≠X.env.locals/\p.1∉X.fs/\∀ v,p.2.data≠.cell v
 hok:HOk X.prog X.w H s.heap
 len:σ.length=X.N.length
variable {x:Str} {X:Cx} {pins:List (Addr×Obj)} {s s':Shared} {t' i:Nat} {it:Addr} {v:V}
section
variable {σ:List (Option V)}
theorem Cx.Ok.nofr (ok:X.Ok) {o:Obj} (e:X.base.get? b=some o):b∉X.fs:=fun hb=>by
 have:=(ok.funs.mem hb).1
 rw [e] at this; cases this
theorem Inv.bs (I:Inv X pins σ H s):∀ b o,X.base.get? b=some o->s.heap.get? b=some o/\H b=none:=fun b o e=>
 ⟨I.base.keep b o (I.ok.bs b o e).1 (I.ok.bs b o e).2 (I.ok.nofr e) (I.ok.noex b o e),I.base.free b o (I.ok.bs b o e).1 (I.ok.bs b o e).2 (I.ok.noex b o e)⟩
theorem Inv.bk (I:Inv X pins σ H s):∀ b o,X.base.get? b=some o->s.heap.get? b=some o:=fun b o e=>(I.bs b o e).1
theorem Inv.mod (I:Inv X pins σ H s):Mod X.K X.mg X.base:=I.ok.mod
theorem Inv.kIn (I:Inv X pins σ H s):X.K.In s.heap:=I.ok.mod.kin.keeps I.bk
theorem Inv.nolimit (I:Inv X pins σ H s):s.heap.NoLimit:=I.ok.mod.nolimit.keeps I.bk
theorem Inv.fr (I:Inv X pins σ H s):∃ m,Fr X.base X.env.locals s.heap m:=
 let ⟨m,hn,_⟩:=I.loc
 ⟨m,hn,I.bk,be I.ok.bsz I.ok.above⟩
theorem Inv.lt (I:Inv X pins σ H s):X.env.locals < s.heap.objs.size:=let ⟨_,hn,_⟩:=I.loc; hn.lt
theorem Inv.sz (I:Inv X pins σ H s):X.s₀.heap.objs.size<=s.heap.objs.size:=be I.ok.above (cU I.lt)
theorem Inv.nofs (I:Inv X pins σ H s) (h:s.heap.objs.size<=a):a∉X.fs:=fun hb=>by
 obtain ⟨_,o,ho,_⟩:=I.ok.funs.mem hb
 exact absurd (aH (ap ho) (be I.sz h)) (bR _)
theorem Inv.cne (I:Inv X pins σ H s):∀ x c,X.env.cells.lookup x=some c->c≠X.env.locals:=fun x c e z=>by
 obtain ⟨v,o,ho,hd⟩:=I.cell x c e
 obtain ⟨m,⟨o',es,ep,ho',hd',_⟩,_⟩:=I.loc
 rw [z,ho'] at ho; cases ho; rw [hd'] at hd; cases hd
theorem Inv.funs (I:Inv X pins σ H s):s.heap.FunFrames X.base X.outer:=by
 have all:∀ (l:List Env),(∀ b∈frs l,b∈X.fs)->X.s₀.heap.FunFrames X.base l->s.heap.FunFrames X.base l:=by
  intro l
  induction l with
  | nil=>intro _ _; trivial
  | cons env r ih=>
   intro hs hl
   obtain ⟨hk,⟨L,o,hf,hn,ho,hd⟩,hr⟩:=hl
   have hL:L∈X.fs:=hs L (by unfold frs; rw [cx,hf]; exact ai)
   obtain ⟨sl,e⟩:=I.base.slot L o ho (I.ok.frf L hL) hL fun z=>I.ok.exfs L z hL
   exact ⟨hk,⟨L,_,hf,hn,e,hd⟩,ih (fun b hb=>hs b (by unfold frs; rw [cx,hf]; exact aa _ hb)) hr⟩
 exact all X.outer (fun _ hb=>hb) I.ok.funs
theorem Inv.stack (I:Inv X pins σ H s):s.heap.FunFrames X.base X.stack:=by
 rcases I.ok.stk with e | ⟨e,hf⟩
 ·rw [e]; exact I.funs
 ·rw [e]
  obtain ⟨m,hn,_⟩:=I.loc
  refine .cons (by rw [I.ok.kind]; decide) hf hn ?_ I.funs
  exact Heap.get?_none_of_le (be I.ok.bsz I.ok.above)
theorem Inv.stkSub (I:Inv X pins σ H s):∀ b∈frs X.stack,b∈X.env.locals::X.fs:=fun b hb=>by
 rcases I.ok.stk with e | ⟨e,hf⟩
 ·rw [e] at hb; exact aa _ hb
 ·rw [e] at hb
  unfold frs at hb
  rw [cx,hf] at hb
  exact hb
theorem Inv.stkFree (I:Inv X pins σ H s):∀ b∈frs X.stack,H b=none:=fun b hb=>by
 rcases ac.mp (I.stkSub b hb) with e | hb
 ·rw [e]; exact I.free
 ·obtain ⟨_,o,ho,_⟩:=I.ok.funs.mem hb
  exact I.base.free b o ho (I.ok.frf b hb) fun z=>I.ok.exfs b z hb
theorem Inv.step {g':Array GenState} {t':Nat} {d':Drawn} {ch:List Addr} (I:Inv X pins σ H s)
  (hch:∀ b∈ch,(b∈X.ex\/X.s₀.heap.objs.size<=b)/\b≠X.env.locals/\(∀ x c,X.env.cells.lookup x=some c->c≠b)/\∀ p∈X.pn++pins,p.1≠b)
  (keep:∀ b o,b≠X.env.locals->b∉X.fs->b∉ch->s.heap.get? b=some o->H b=none->h'.get? b=some o)
  (slot:∀ b o,b≠X.env.locals->b∈X.fs->b∉ch->s.heap.get? b=some o->H b=none->∃ sl,h'.get? b=some { o with slots:=sl }) (free:∀ b o,b∉ch->s.heap.get? b=some o->H b=none->H' b=none)
  (there:∀ b o,b∉ch->s.heap.get? b=some o->∃ o',h'.get? b=some o')
  (tups:∀ b xs,H b=some (.tup xs)->H' b=some (.tup xs)) (frzs:∀ b o u,H b=some (.frz o u)->H' b=some (.frz o u)) (tbls:∀ b ps,H b=some (.tbl ps)->∃ more,H' b=some (.tbl (ps++more)))
  (ns:∀ m,s.heap.Ns X.env.locals m->h'.Ns X.env.locals m) (hok:HOk X.prog X.w H' h') (hg:AllBare g') :
  Inv X pins σ H' { s with heap:=h',gens:=g',drawn:=d',toks:=t' }:=by
 have neL:∀ b o,X.s₀.heap.get? b=some o->b≠X.env.locals:=fun b o e=>aD (aH (ap e) I.ok.above)
 have neC:∀ b o,X.s₀.heap.get? b=some o->b∉X.ex->b∉ch:=fun b o e hx hb=>by
  rcases (hch b hb).1 with z | z
  ·exact hx z
  ·exact absurd (aH (ap e) z) (bR _)
 have cellK:∀ x c,X.env.cells.lookup x=some c->∀ v,s.heap.IsCell c v->h'.IsCell c v:=fun x c e v ⟨o,ho,hd⟩=>by
  have nch:c∉ch:=fun z=>(hch c z).2.2.1 x c e rfl
  by_cases hc:c∈X.fs
  ·obtain ⟨sl,q⟩:=slot c o (I.cne x c e) hc nch ho (I.freeC x c e)
   exact ⟨_,q,hd⟩
  ·exact ⟨o,keep c o (I.cne x c e) hc nch ho (I.freeC x c e),hd⟩
 refine ⟨I.ok,I.os,hg,⟨fun b o e n hb hx=>?_,fun b o e n hb hx=>?_,fun b o e n hx=>?_,fun b o e hx=>?_,fun b xs e=>tups b xs (I.base.tups b xs e),fun b o xs e=>frzs b o xs (I.base.frzs b o xs e),fun b ps e=>?_⟩,?_,fun x c e=>?_,?_,fun x c e=>?_,fun p hp=>?_,hok,I.len⟩
 ·exact keep b o (neL b o e) hb (neC b o e hx) (I.base.keep b o e n hb hx) (I.base.free b o e n hx)
 ·obtain ⟨sl,e1⟩:=I.base.slot b o e n hb hx
  obtain ⟨sl',e2⟩:=slot b _ (neL b o e) hb (neC b o e hx) e1 (I.base.free b o e n hx)
  exact ⟨sl',e2⟩
 ·obtain ⟨o',e1⟩:=I.base.there b o e hx
  exact free b o' (neC b o e hx) e1 (I.base.free b o e n hx)
 ·obtain ⟨o',e1⟩:=I.base.there b o e hx
  exact there b o' (neC b o e hx) e1
 ·obtain ⟨m1,e1⟩:=I.base.tbls b ps e
  obtain ⟨m2,e2⟩:=tbls b _ e1
  exact ⟨m1++m2,by rw [e2,Array.append_assoc]⟩
 ·obtain ⟨m,hn,hl⟩:=I.loc
  refine ⟨m,ns m hn,fun i x v e1 e2 e3=>?_⟩
  obtain ⟨u,r,l⟩:=hl i x v e1 e2 e3
  refine ⟨u,r,?_⟩
  rcases l with l | ⟨k,c,e,z⟩
  ·exact .inl l
  ·exact .inr ⟨k,c,e,cellK x c e _ z⟩
 ·obtain ⟨v,z⟩:=I.cell x c e
  exact ⟨v,cellK x c e v z⟩
 ·obtain ⟨m,⟨o,_,_,ho,_⟩,_⟩:=I.loc
  exact free _ o (fun z=>(hch _ z).2.1 rfl) ho I.free
 ·obtain ⟨v,o,ho,hd⟩:=I.cell x c e
  exact free c o (fun z=>(hch c z).2.2.1 x c e rfl) ho (I.freeC x c e)
 ·obtain ⟨e,n,ne,nf,d⟩:=I.pin p hp
  have nch:p.1∉ch:=fun z=>(hch p.1 z).2.2.2 p hp rfl
  exact ⟨keep p.1 p.2 ne nf nch e n,free p.1 p.2 nch e n,ne,nf,d⟩
theorem Inv.un (I:Inv X pins σ H s) (u:Un X.fs [] H H' s.heap h') (hok:HOk X.prog X.w H' h'):Inv X pins σ H' { s with heap:=h',toks:=t' }:=by
 obtain ⟨m,⟨o,es,ep,ho,r⟩,_⟩:=id I.loc
 obtain ⟨sl,hL⟩:=u.any ho I.free (by simp)
 exact I.step (g':=s.gens) (d':=s.drawn) (ch:=[]) (fun _ z=>nomatch z) (fun b o _ hb _ e n=>u.keep b o e n hb (by simp)) (fun b o _ hb _ e n=>u.slot b o e n hb (by simp)) (fun b o _ e n=>u.free b o e n (by simp)) (fun b o _ e=>u.there b o e (by simp)) u.tups u.frzs u.tbls (fun m' hm=>by
  obtain ⟨o',es',ep',ho',r'⟩:=hm
  rw [ho] at ho'; cases ho'
  exact ⟨_,es',ep',hL,r'⟩) hok I.bare
theorem Inv.call {g':Array GenState} {t':Nat} {d':Drawn} {ch:List Addr} (I:Inv X pins σ H s) (u:Un (frs X.stack) ch H H' s.heap h') (hok:HOk X.prog X.w H' h') (hg:AllBare g')
  (hch:∀ b∈ch,(b∈X.ex\/X.s₀.heap.objs.size<=b)/\b≠X.env.locals/\(∀ x c,X.env.cells.lookup x=some c->c≠b)/\∀ p∈X.pn++pins,p.1≠b) :
  Inv X pins σ H' { s with heap:=h',gens:=g',drawn:=d',toks:=t' }:=by
 obtain ⟨m,⟨o,es,ep,ho,r⟩,_⟩:=id I.loc
 obtain ⟨sl,hL⟩:=u.any ho I.free fun z=>(hch _ z).2.1 rfl
 exact I.step (ch:=ch) hch (fun b o hL hb hc e n=>u.keep b o e n (fun z=>(ac.mp (I.stkSub b z)).elim hL hb) hc) (fun b o _ _ hc e n=>u.any e n hc) (fun b o hc e n=>u.free b o e n hc) (fun b o hc e=>u.there b o e hc) u.tups u.frzs u.tbls (fun m' hm=>by
  obtain ⟨o',es',ep',ho',r'⟩:=hm
  rw [ho] at ho'; cases ho'
  exact ⟨_,es',ep',hL,r'⟩) hok hg
theorem Inv.turned {t':Nat} (I:Inv X pins σ H s) (k:∀ b o,b≠it->s.heap.get? b=some o->h'.get? b=some o) (hn:H it=none) (hL:it≠X.env.locals)
  (h1:it∈X.ex\/X.s₀.heap.objs.size<=it) (h2:∀ x c,X.env.cells.lookup x=some c->c≠it) (h3:∀ p∈X.pn++pins,p.1≠it):Inv X pins σ H { s with heap:=h',toks:=t' }:=by
 have nit:∀ b u,H b=some u->b≠it:=fun b u e z=>by rw [z,hn] at e; cases e
 refine I.step (g':=s.gens) (d':=s.drawn) (ch:=[it]) (fun b hb=>?_) (fun b o _ _ hc e _=>k b o (fun z=>hc (by simp [z])) e) (fun b o _ _ hc e _=>⟨o.slots,k b o (fun z=>hc (by simp [z])) e⟩) (fun _ _ _ _ n=>n)
  (fun b o hc e=>⟨o,k b o (fun z=>hc (by simp [z])) e⟩) (fun _ _ e=>e) (fun _ _ _ e=>e) (fun b ps e=>⟨#[],by rw [e]; simp⟩) (fun m hm=>?_) (fun b u e=>?_) I.bare
 ·have e:b=it:=by simpa using hb
  subst e
  exact ⟨h1,hL,h2,h3⟩
 ·obtain ⟨o,es,ep,ho,r⟩:=hm
  exact ⟨o,es,ep,k _ o (aU hL) ho,r⟩
 ·refine (I.hok b u e).stay (fun c v hc q=>k c v ?_ q) (fun _ q=>q) fun _ _ q=>q
  rcases hc with z | z
  ·rw [z]; exact nit b u e
  ·exact nit c _ z
theorem Inv.tok (I:Inv X pins σ H s) (t:Nat):Inv X pins σ H { s with toks:=t }:=I.un (h':=s.heap) (t':=t) Un.refl I.hok
theorem Inv.kept (I:Inv X pins σ H s) (k:∀ b u,s.heap.get? b=some u->h'.get? b=some u):Inv X pins σ H { s with heap:=h',toks:=t' }:=I.un (Un.kept k) (I.hok.kept k)
theorem Inv.laid {t':Nat} (I:Inv X pins σ H s) (k:∀ b u,s.heap.get? b=some u->h'.get? b=some u) (hp:s.heap.objs.size<=a) (new:ObjOk X.prog X.w (upd H a o) h' a o) :
  Inv X pins σ (upd H a o) { s with heap:=h',toks:=t' }:=I.un (Un.laid k hp (I.hok.fresh hp)) (I.hok.laid k hp new)
theorem Inv.write {x e:Addr} {o:HO} {t':Nat} (I:Inv X pins σ H s) (mu:Mut (H x)) (he:e=x\/H e=some (.own x)) (k:∀ b u,b≠e->s.heap.get? b=some u->h'.get? b=some u) (heo:∃ u,h'.get? e=some u)
  (new:ObjOk X.prog X.w (upd H x o) h' x o):Inv X pins σ (upd H x o) { s with heap:=h',toks:=t' }:=I.un (Un.write mu he k heo) (I.hok.write mu he k heo new)
theorem Inv.weak {σ':List (Option V)} (I:Inv X pins σ H s) (hl:σ'.length=σ.length) (w:∀ (i:Nat) v,σ'[i]?=some (some v)->σ[i]?=some (some v)):Inv X pins σ' H s:=
 ⟨I.ok,I.os,I.bare,I.base,let ⟨m,hn,hl'⟩:=I.loc; ⟨m,hn,fun i x v e1 e2 e3=>hl' i x v e1 (w i v e2) e3⟩,I.cell,I.free,I.freeC,I.pin,I.hok,hl.trans I.len⟩
theorem Inv.pins_of {pins':List (Addr×Obj)} (I:Inv X pins σ H s) (h:∀ p∈pins',s.heap.get? p.1=some p.2/\H p.1=none/\p.1≠X.env.locals/\p.1∉X.fs/\∀ v,p.2.data≠.cell v):Inv X pins' σ H s:=
 ⟨I.ok,I.os,I.bare,I.base,I.loc,I.cell,I.free,I.freeC,fun p hp=>(aj.mp hp).elim (fun z=>I.pin p (bP _ z)) (h p),I.hok,I.len⟩
theorem Wf {N:List Str} (hN:N.Nodup) {j:Nat} (a:N[i]?=some x) (b:N[j]?=some x):i=j:=by
 obtain ⟨h1,e1⟩:=aA.mp a
 obtain ⟨h2,e2⟩:=aA.mp b
 exact (eQ hN).mp (e1.trans e2.symm)
theorem JC {M:Model} {A:Around} {E:Value->Shared->Prop} {Q:Unit->Shared->Prop} (I:Inv X pins σ H s) (hN:X.N.Nodup) (hi:X.N[i]?=some x) (hx:Loc X.env.scope x) (r:RelV v u)
  (h:∀ s',Inv X pins (σ.set i (some v)) H s'->(∃ a,bL a s.heap s'.heap/\(a=X.env.locals\/X.env.cells.lookup x=some a))->Q () s') (hf:X.fn x=true\/X.env.scope.names.lookup x=some .local:=by first | exact .inl rfl | exact .inr rfl | assumption):wpAny M A (storeName X.env x u) Q E s:=by
 obtain ⟨m,hn,hl⟩:=id I.loc
 have hcls:(X.env.scope.kind == .class||(X.env.scope.kind == .module&&X.env.locals != X.env.globals))=false:=by rw [I.ok.kind]; rfl
 have hiσ:i < σ.length:=by rw [I.len]; exact (aA.mp hi).1
 have cne:=I.cne
 have tracked:∀ {a:Addr} {h':Heap},(∃ o,s.heap.get? a=some o/\H a=none)->bL a s.heap h'->HOk X.prog X.w H h':=fun {a h'} ha hs b ob e=>by
  obtain ⟨_,_,hfree⟩:=ha
  refine (I.hok b ob e).stay (fun c w' hc q=>(hs.2 c ?_).trans q) (fun _ q=>q) fun _ _ q=>q
  rintro rfl
  rcases hc with rfl | hc
  ·rw [hfree] at e; cases e
  ·rw [hfree] at hc; cases hc
 rcases hx with hk | hk
 ·refine wpAny_storeName_local hk hn (fun h' hn' hs=>?_) hcls
  obtain ⟨oL,_,_,hoL,_⟩:=id hn
  refine h _ ⟨I.ok,I.os,I.bare,⟨fun b o e n hb hx=>?_,fun b o e n hb hx=>?_,I.base.free,fun b o e hx=>?_,I.base.tups,I.base.frzs,I.base.tbls⟩,⟨_,hn',fun j y v' e1 e2 e3=>?_⟩,fun y c e=>?_,I.free,I.freeC,fun p hp=>?_,tracked ⟨oL,hoL,I.free⟩ hs,by simpa using I.len⟩ ⟨_,hs,.inl rfl⟩
  ·exact (hs.2 b (aD (aH (ap e) I.ok.above))).trans (I.base.keep b o e n hb hx)
  ·obtain ⟨sl,e1⟩:=I.base.slot b o e n hb hx
   exact ⟨sl,(hs.2 b (aD (aH (ap e) I.ok.above))).trans e1⟩
  ·obtain ⟨o',e1⟩:=I.base.there b o e hx
   exact ⟨o',(hs.2 b (aD (aH (ap e) I.ok.above))).trans e1⟩
  ·by_cases hj:j=i
   ·subst hj
    rw [hi] at e1; cases e1
    rw [aE hiσ] at e2
    cases e2
    exact ⟨u,r,.inl ⟨hk,by simp⟩⟩
   ·rw [aq (aU hj)] at e2
    obtain ⟨u',r',q⟩:=hl j y v' e1 e2 e3
    refine ⟨u',r',?_⟩
    rcases q with ⟨k,e⟩ | ⟨k,c,e,z⟩
    ·refine .inl ⟨k,?_⟩
     have:y≠x:=fun e=>hj (Wf hN e1 (e ▸ hi))
     simp [this,e]
    ·exact .inr ⟨k,c,e,z.sameBut hs (cne y c e)⟩
  ·obtain ⟨w',z⟩:=I.cell y c e
   exact ⟨w',z.sameBut hs (cne y c e)⟩
  ·obtain ⟨e,n,ne,nf,d⟩:=I.pin p hp
   exact ⟨(hs.2 p.1 ne).trans e,n,ne,nf,d⟩
 ·have hfn:X.fn x=true:=by
   rcases hf with z | z
   ·exact z
   ·rw [z] at hk; cases hk
  obtain ⟨c,hc⟩:=I.ok.has x (.inl hk)
  obtain ⟨w',z⟩:=I.cell x c hc
  refine wpAny_storeName_cell I.ok.kind hk hc z (fun h' hc' hs=>?_)
  obtain ⟨oc,hoc,hocd⟩:=id z
  refine h { s with heap:=h' } ⟨I.ok,I.os,I.bare,⟨fun b o e n hb hx=>?_,fun b o e n hb hx=>?_,I.base.free,fun b o e hx=>?_,I.base.tups,I.base.frzs,I.base.tbls⟩,⟨m,hn.sameBut hs (aU (cne x c hc)),fun j y v' e1 e2 e3=>?_⟩,fun y c' e=>?_,I.free,I.freeC,fun p hp=>?_,tracked ⟨oc,hoc,I.freeC x c hc⟩ hs,by simpa using I.len⟩ ⟨c,hs,.inr hc⟩
  ·exact (hs.2 b (aD (aH (ap e) (I.ok.cab x c hfn hc)))).trans (I.base.keep b o e n hb hx)
  ·obtain ⟨sl,e1⟩:=I.base.slot b o e n hb hx
   exact ⟨sl,(hs.2 b (aD (aH (ap e) (I.ok.cab x c hfn hc)))).trans e1⟩
  ·obtain ⟨o',e1⟩:=I.base.there b o e hx
   exact ⟨o',(hs.2 b (aD (aH (ap e) (I.ok.cab x c hfn hc)))).trans e1⟩
  ·by_cases hj:j=i
   ·subst hj
    rw [hi] at e1; cases e1
    rw [aE hiσ] at e2
    cases e2
    exact ⟨u,r,.inr ⟨.inl hk,c,hc,hc'⟩⟩
   ·rw [aq (aU hj)] at e2
    obtain ⟨u',r',q⟩:=hl j y v' e1 e2 e3
    refine ⟨u',r',?_⟩
    rcases q with q | ⟨k,c',e,z'⟩
    ·exact .inl q
    ·refine .inr ⟨k,c',e,z'.sameBut hs ?_⟩
     rintro rfl
     exact hj (Wf hN e1 (I.ok.inj _ _ _ e hc ▸ hi))
  ·by_cases hcc:c'=c
   ·subst hcc; exact ⟨_,hc'⟩
   ·obtain ⟨w2,z2⟩:=I.cell y c' e
    exact ⟨w2,z2.sameBut hs hcc⟩
  ·obtain ⟨e,n,ne,nf,d⟩:=I.pin p hp
   refine ⟨(hs.2 p.1 ?_).trans e,n,ne,nf,d⟩
   intro q
   rw [q,hoc] at e
   have q':oc=p.2:=bc.inj e
   exact d w' (by rw [<-q']; exact hocd)
theorem Qf {M:Model} {A:Around} {E:Value->Shared->Prop} {Q:Unit->Shared->Prop} (I:Inv X pins σ H s) (hN:X.N.Nodup) (hi:X.N[i]?=some x) (hx:Loc X.env.scope x) (r:RelV v u)
  (h:∀ s',Inv X pins (σ.set i (some v)) H s'->Q () s') (hf:X.fn x=true\/X.env.scope.names.lookup x=some .local:=by first | exact .inl rfl | exact .inr rfl | assumption):wpAny M A (storeName X.env x u) Q E s:=
 JC I hN hi hx r (fun s' I' _=>h s' I') hf
theorem Inv.call' {ch:List Addr} (I:Inv X pins σ H s) (ho:s'.os=s.os) (u:Un (frs X.stack) ch H H' s.heap s'.heap) (hok:HOk X.prog X.w H' s'.heap) (hg:AllBare s'.gens)
  (hch:∀ b∈ch,(b∈X.ex\/X.s₀.heap.objs.size<=b)/\b≠X.env.locals/\(∀ x c,X.env.cells.lookup x=some c->c≠b)/\∀ p∈X.pn++pins,p.1≠b):Inv X pins σ H' s':=by
 obtain ⟨h',g',d',t',o'⟩:=s'
 have e:o'=s.os:=ho
 subst e
 exact I.call (g':=g') (t':=t') (d':=d') u hok hg hch
end
abbrev XK:=Value->Option Addr->Hp->Prop
abbrev St:=List (Option V)
abbrev VK:=V->Hp->Prop
abbrev TE:=St->Hp->VK->Prop
abbrev TT:=St->Hp->(Bool->Hp->Prop)->Prop
abbrev TA:=St->Hp->(List V->Hp->Prop)->Prop
structure Ends where
 nx:St->Hp->Prop
 rt:VK
 bk:St->Hp->Prop:=fun _ _=>False
 ct:St->Hp->Prop:=fun _ _=>False
abbrev TS:=Ends->St->Hp->Prop
def EP (X:Cx) (pins:List (Addr×Obj)) (σ:St) (Q:VK) (u:Value) (s':Shared):Prop:=∃ v H',Inv X pins σ H' s'/\RelV v u/\Q v H'
def TP (X:Cx) (pins:List (Addr×Obj)) (σ:St) (Q:Bool->Hp->Prop) (b:Bool) (s':Shared):Prop:=∃ H',Inv X pins σ H' s'/\Q b H'
def AP (X:Cx) (pins:List (Addr×Obj)) (σ:St) (Q:List V->Hp->Prop) (us:List Value) (s':Shared):Prop:=∃ vs H',Inv X pins σ H' s'/\Vals vs us/\Q vs H'
def SP (X:Cx) (pins:List (Addr×Obj)) (D:Ends) (f:Flow) (s':Shared):Prop:=
 match f with
 | .next=>∃ σ' H',Inv X pins σ' H' s'/\D.nx σ' H'
 | .brk=>∃ σ' H',Inv X pins σ' H' s'/\D.bk σ' H'
 | .cont=>∃ σ' H',Inv X pins σ' H' s'/\D.ct σ' H'
 | .ret u=>∃ v σ' H',Inv X pins σ' H' s'/\RelV v u/\D.rt v H'
structure PE (X:Cx) (e:Expr) (t:TE):Prop where
 run:∀ (pins:List (Addr×Obj)) (s:Shared) (σ:St) (H:Hp) (Q:VK),Inv X pins σ H s->t σ H Q->wpAny (model X.prog X.w) X.A (eval e X.env) (EP X pins σ Q) X.xe s
instance {X:Cx} {e:Expr} {t:TE}:CoeFun (PE X e t) (fun _=>∀ (pins:List (Addr×Obj)) (s:Shared) (σ:St) (H:Hp) (Q:VK),Inv X pins σ H s->t σ H Q->wpAny (model X.prog X.w) X.A (eval e X.env) (EP X pins σ Q) X.xe s):=⟨fun h=>h.run⟩
structure PT (X:Cx) (e:Expr) (t:TT):Prop where
 run:∀ (pins:List (Addr×Obj)) (s:Shared) (σ:St) (H:Hp) (Q:Bool->Hp->Prop),Inv X pins σ H s->t σ H Q->wpAny (model X.prog X.w) X.A (isTrue e X.env (eval e X.env)) (TP X pins σ Q) X.xe s
instance {X:Cx} {e:Expr} {t:TT}:CoeFun (PT X e t) (fun _=>∀ (pins:List (Addr×Obj)) (s:Shared) (σ:St) (H:Hp) (Q:Bool->Hp->Prop),Inv X pins σ H s->t σ H Q->wpAny (model X.prog X.w) X.A (isTrue e X.env (eval e X.env)) (TP X pins σ Q) X.xe s):=⟨fun h=>h.run⟩
structure PW (X:Cx) (e:Expr) (t:TT):Prop where
 run:∀ (whole:Sem Value) (pins:List (Addr×Obj)) (s:Shared) (σ:St) (H:Hp) (Q:Bool->Hp->Prop),Inv X pins σ H s->t σ H Q->wpAny (model X.prog X.w) X.A (isTrue e X.env whole) (TP X pins σ Q) X.xe s
instance {X:Cx} {e:Expr} {t:TT}:CoeFun (PW X e t) (fun _=>∀ (whole:Sem Value) (pins:List (Addr×Obj)) (s:Shared) (σ:St) (H:Hp) (Q:Bool->Hp->Prop),Inv X pins σ H s->t σ H Q->wpAny (model X.prog X.w) X.A (isTrue e X.env whole) (TP X pins σ Q) X.xe s):=⟨fun h=>h.run⟩
variable {e:Expr}
theorem PW.pt {t:TT} (h:PW X e t):PT X e t:=⟨h.run _⟩
structure PA (X:Cx) (es:List Expr) (t:TA):Prop where
 run:∀ (pos:Pos) (pins:List (Addr×Obj)) (s:Shared) (σ:St) (H:Hp) (Q:List V->Hp->Prop),Inv X pins σ H s->t σ H Q->wpAny (model X.prog X.w) X.A (spliced (backTo pos (starEach es X.env))) (AP X pins σ Q) X.xe s
instance {X:Cx} {es:List Expr} {t:TA}:CoeFun (PA X es t) (fun _=>∀ (pos:Pos) (pins:List (Addr×Obj)) (s:Shared) (σ:St) (H:Hp) (Q:List V->Hp->Prop),Inv X pins σ H s->t σ H Q->wpAny (model X.prog X.w) X.A (spliced (backTo pos (starEach es X.env))) (AP X pins σ Q) X.xe s):=⟨fun h=>h.run⟩
structure PS (X:Cx) (st:Stmt) (t:TS):Prop where
 run:∀ (pins:List (Addr×Obj)) (s:Shared) (σ:St) (H:Hp) (D:Ends),Inv X pins σ H s->t D σ H->wpAny (model X.prog X.w) X.A (exec st X.env) (SP X pins D) X.xe s
instance {X:Cx} {st:Stmt} {t:TS}:CoeFun (PS X st t) (fun _=>∀ (pins:List (Addr×Obj)) (s:Shared) (σ:St) (H:Hp) (D:Ends),Inv X pins σ H s->t D σ H->wpAny (model X.prog X.w) X.A (exec st X.env) (SP X pins D) X.xe s):=⟨fun h=>h.run⟩
structure PSs (X:Cx) (st:List Stmt) (t:TS):Prop where
 run:∀ (pins:List (Addr×Obj)) (s:Shared) (σ:St) (H:Hp) (D:Ends),Inv X pins σ H s->t D σ H->wpAny (model X.prog X.w) X.A (execs st X.env) (SP X pins D) X.xe s
instance {X:Cx} {st:List Stmt} {t:TS}:CoeFun (PSs X st t) (fun _=>∀ (pins:List (Addr×Obj)) (s:Shared) (σ:St) (H:Hp) (D:Ends),Inv X pins σ H s->t D σ H->wpAny (model X.prog X.w) X.A (execs st X.env) (SP X pins D) X.xe s):=⟨fun h=>h.run⟩
variable {A:Around} {E:Value->Shared->Prop}
theorem thn {t:Sem α} {Q Q':α->Shared->Prop} {M:Model} (h:wpAny M A t Q E s) (hQ:∀ a s,Q a s->Q' a s):wpAny M A t Q' E s:=wpAny_mono h hQ fun _ _ x=>x
variable {σ:St} {pos:Pos} {Q:Value->Shared->Prop} {ta:TE} {c:Expr}
section
def qfM (i:Nat):TE:=fun σ H Q=>∃ v,σ[i]?=some (some v)/\Q v H
def tC (v:V):TE:=fun _ H Q=>Q v H
theorem uD (hN:X.N[i]?=some x) (hv:Vis X.env.scope x) (hd:(x == ("__debug__":Str))=false:=by decide) (hcd:(x == ("__classdict__":Str))=false:=by decide):PE X (.Name x pos) (qfM i):=by
 refine ⟨?_⟩
 intro pins s σ H Q I h
 obtain ⟨v,e,h⟩:=h
 obtain ⟨m,hn,hl⟩:=I.loc
 obtain ⟨u,r,l⟩:=hl i x v hN e hv
 have fin:EP X pins σ Q u s:=⟨v,H,I,r,h⟩
 rcases l with ⟨hk,hm⟩ | ⟨hk,c,hc,hcell⟩
 ·exact wpAny_Name (wpAny_loadName_local I.ok.kind hk hn hm fin) hd
 ·rcases hk with hk | hk
  ·exact wpAny_Name (wpAny_loadName_cell I.ok.kind hk hc hcell fin) hd
  ·exact wpAny_Name (wpAny_loadName_free I.ok.kind hk hc hcell fin hcd) hd
theorem qa6 {i j pos}:PE X (.Constant (.int i) j pos) (tC (.int i)):=⟨fun _ _ _ H _ I h=>wpAny_Constant_int ⟨.int i,H,I.tok _,⟨_,rfl⟩,h⟩⟩
theorem qbM {b j pos}:PE X (.Constant (.bool b) j pos) (tC (.bl b)):=⟨fun _ _ _ H _ I h=>Constant_bool ⟨.bl b,H,I,rfl,h⟩⟩
theorem qdz {j pos}:PE X (.Constant .none j pos) (tC .non):=⟨fun _ _ _ H _ I h=>Constant_none ⟨.non,H,I,rfl,h⟩⟩
theorem qa7 {x j pos}:PE X (.Constant (.str x) j pos) (tC (.str x)):=⟨fun _ _ _ H _ I h=>Calls.Constant_str ⟨.str x,H,I.tok _,⟨_,rfl⟩,h⟩⟩
def Gl (X:Cx) (x:Str):Prop:=X.env.kindOf x=some .globalImplicit
theorem zp {E:Value->Shared->Prop} {pos:Pos} (I:Inv X pins σ H s) (hg:Gl X x) (hm:X.mg x=some u) (h:Q u s)
  (hd:(x == ("__debug__":Str))=false:=by decide):wpAny (model X.prog X.w) X.A (eval (.Name x pos) X.env) Q E s:=
 Calls.Name_function_global I.ok.kind hg (Calls.loadGlobal_global (by rw [I.ok.glob]; exact I.mod.glob.keeps I.bk) hm h) hd
theorem xq {E:Value->Shared->Prop} {pos:Pos} (I:Inv X pins σ H s) (hg:Gl X x) (hm:X.mg x=none) (hv:bootBuiltins x=some u) (h:Q u s)
  (hn:x ≠ "__name__":=by decide) (hd:(x == ("__debug__":Str))=false:=by decide):wpAny (model X.prog X.w) X.A (eval (.Name x pos) X.env) Q E s:=by
 obtain ⟨mb,h1,h2⟩:=I.mod.blt
 exact Calls.Name_function_global I.ok.kind hg (Calls.loadGlobal_builtin (by rw [I.ok.glob]; exact I.mod.glob.keeps I.bk) hm (by rw [I.ok.blt]; exact h1.keeps I.bk) ((h2 x hn).trans hv) h) hd
theorem Yk (hg:Gl X x) (hm:X.mg x=some u) (r:RelV v u) (hd:(x == ("__debug__":Str))=false:=by decide):PE X (.Name x pos) (tC v):=⟨fun _ _ _ H _ I h=>zp I hg hm ⟨v,H,I,r,h⟩ hd⟩
theorem Yl (hg:Gl X x) (hm:X.mg x=none) (hv:bootBuiltins x=some u) (r:RelV v u) (hn:x ≠ "__name__":=by decide) (hd:(x == ("__debug__":Str))=false:=by decide):PE X (.Name x pos) (tC v):=⟨fun _ _ _ H _ I h=>xq I hg hm hv ⟨v,H,I,r,h⟩ hn hd⟩
variable {a b:Expr} {tb:TE}
variable {tA tB':TT} {rest:List Expr}
def qhn (t u:TT):TT:=fun σ H Q=>t σ H fun c H1=>if c=true then u σ H1 Q else Q false H1
def tOr (t u:TT):TT:=fun σ H Q=>t σ H fun c H1=>if c=true then Q true H1 else u σ H1 Q
def qho (t:TT):TT:=fun σ H Q=>t σ H fun c H1=>Q (!c) H1
theorem qbN (ha:PT X a tA):PW X (.BoolOp .And [a] pos) tA:=by
 refine ⟨?_⟩
 intro wh pins s σ H Q I h
 refine isTrue_and (thn (ha pins s σ H Q I h) fun c s1 e=>?_)
 cases c with
 | true=>exact isTrue_and_nil e
 | false=>exact e
theorem qdA (ha:PT X a tA):PW X (.BoolOp .Or [a] pos) tA:=by
 refine ⟨?_⟩
 intro wh pins s σ H Q I h
 refine isTrue_or (thn (ha pins s σ H Q I h) fun c s1 e=>?_)
 cases c with
 | false=>exact isTrue_or_nil e
 | true=>exact e
theorem qdB (ha:PT X a tA) (hb:PW X (.BoolOp .And (b::rest) pos) tB'):PW X (.BoolOp .And (a::b::rest) pos) (qhn tA tB'):=by
 refine ⟨?_⟩
 intro wh pins s σ H Q I h
 refine isTrue_and (thn (ha pins s σ H _ I h) fun c s1 ⟨H1,I1,q1⟩=>?_)
 cases c with
 | true=>exact hb wh pins s1 σ H1 Q I1 q1
 | false=>exact ⟨H1,I1,q1⟩
theorem qfN (ha:PT X a tA) (hb:PW X (.BoolOp .Or (b::rest) pos) tB'):PW X (.BoolOp .Or (a::b::rest) pos) (tOr tA tB'):=by
 refine ⟨?_⟩
 intro wh pins s σ H Q I h
 refine isTrue_or (thn (ha pins s σ H _ I h) fun c s1 ⟨H1,I1,q1⟩=>?_)
 cases c with
 | true=>exact ⟨H1,I1,q1⟩
 | false=>exact hb wh pins s1 σ H1 Q I1 q1
theorem qdC (ha:PT X a tA):PT X (.UnaryOp .Not a pos) (qho tA):=by
 refine ⟨?_⟩
 intro pins s σ H Q I h
 exact isTrue_not (ha pins s σ H (fun c H1=>Q (!c) H1) I h)
def qfO (ta tb:TE):TE:=fun σ H Q=>ta σ H fun x H1=>∃ c,x=.bl c/\if c=true then tb σ H1 Q else Q (.bl false) H1
theorem qdD {op} {t:TE} (h:PE X a t):PE X (.BoolOp op [a] pos) t:=⟨fun pins s σ H Q I hw=>BoolOp_one (h pins s σ H Q I hw)⟩
theorem qdE (ha:PE X a ta) (hb:PE X (.BoolOp .And (b::rest) pos) tb):PE X (.BoolOp .And (a::b::rest) pos) (qfO ta tb):=by
 refine ⟨?_⟩
 intro pins s σ H Q I h
 refine BoolOp_and (thn (ha pins s σ H _ I h) fun v s1 ⟨x,H1,I1,r1,q1⟩=>?_)
 obtain ⟨c,rfl,q1⟩:=q1
 cases r1
 refine wpAny_truthy_bool ?_
 cases c with
 | true=>exact hb pins s1 σ H1 Q I1 q1
 | false=>exact ⟨.bl false,H1,I1,rfl,q1⟩
def tIf (t:TT) (ta tb:TE):TE:=fun σ H Q=>t σ H fun c H1=>if c=true then ta σ H1 Q else tb σ H1 Q
theorem Gi (hc:PT X c tA) (ha:PE X a ta) (hb:PE X b tb):PE X (.IfExp c a b pos) (tIf tA ta tb):=by
 refine ⟨?_⟩
 intro pins s σ H Q I h
 refine wpAny_IfExp (thn (hc pins s σ H _ I h) fun d s1 ⟨H1,I1,q1⟩=>?_)
 cases d with
 | true=>exact ha pins s1 σ H1 Q I1 q1
 | false=>exact hb pins s1 σ H1 Q I1 q1
end
def SqL (K:Frag) (H:Hp) (a:Addr) (xs:List V):Prop:=
 Rd H a (.lst xs) \/
  ∃ (o:Obj) (its:Array Value) (n:Nat),K.lookup a=some o/\o.cls=.type "list"/\o.dict=none/\o.data=.seq its n/\its.size<=sizeLine/\Vals xs its.toList
def SqT (K:Frag) (H:Hp) (a:Addr) (xs:List V):Prop:=
 Rd H a (.tup xs) \/
  ∃ (o:Obj) (its:Array Value) (n:Nat),K.lookup a=some o/\(o.cls=.type "tuple"/\o.dict=none)/\o.data=.seq its n/\its.size<=sizeLine/\Vals xs its.toList
noncomputable def qhp:Value->Option V
 | .none=>some .non
 | .bool b=>some (.bl b)
 | .int i _=>some (.int i)
 | .str x _=>some (.str x)
 | .bytes b _=>some (.byt b)
 | .float b _=>some (.flt b)
 | .ref a=>some (.ref a)
 | .type n=>some (.ty n)
 | _=>none
theorem RelV.abs {x:V} (r:RelV x u):qhp u=some x:=by
 cases x with
 | non=>cases r; rfl
 | bl _=>cases r; rfl
 | int _=>obtain ⟨t,rfl⟩:=r; rfl
 | str _=>obtain ⟨t,rfl⟩:=r; rfl
 | byt _=>obtain ⟨t,rfl⟩:=r; rfl
 | flt _=>obtain ⟨t,rfl⟩:=r; rfl
 | ref _=>cases r; rfl
 | ty _=>cases r; rfl
theorem RelV.inj {x y:V} (r:RelV x u) (q:RelV y u):x=y:=bc.inj (r.abs.symm.trans q.abs)
theorem Vals.inj:∀ {xs ys:List V} {us:List Value},Vals xs us->Vals ys us->xs=ys
 | _,_,_,.nil,.nil=>rfl
 | _,_,_,.cons r t,.cons r' t'=>by rw [r.inj r',Vals.inj t t']
variable {K:Frag}
section
variable {ys:List V}
theorem SqT.of (h:H a=some (.tup xs)):SqT K H a xs:=.inl (.inl h)
theorem Inv.list (I:Inv X pins σ H s) (h:SqL X.K H a xs):∃ its:List Value,Vals xs its/\PlainL s.heap a its.toArray/\xs.length<=sizeLine:=by
 rcases h with h | ⟨o,its,n,hk,hc,hd,hs,hz,r⟩
 ·obtain ⟨z,its,n,r,e⟩:=h.ok I.hok
  exact ⟨its,r,⟨_,n,e,rfl,rfl,rfl⟩,z⟩
 ·refine ⟨its.toList,r,⟨o,n,I.kIn a o hk,hc,hd,by simpa using hs⟩,?_⟩
  have e:=r.length
  simp only [bH] at e
  omega
theorem Inv.tuple (I:Inv X pins σ H s) (h:SqT X.K H a xs):∃ its:List Value,Vals xs its/\IsTup s.heap a its.toArray/\xs.length<=sizeLine:=by
 rcases h with h | ⟨o,its,n,hk,hc,hs,hz,r⟩
 ·obtain ⟨⟨z,_⟩,its,r,p⟩:=h.ok I.hok
  exact ⟨its,r,p,z⟩
 ·refine ⟨its.toList,r,⟨o,I.kIn a o hk,hc.1,n,by simpa using hs⟩,?_⟩
  have e:=r.length
  simp only [bH] at e
  omega
theorem Inv.tupleN (I:Inv X pins σ H s) (h:SqT X.K H a xs):∃ o,s.heap.get? a=some o/\o.dict=none:=by
 rcases h with h | ⟨o,its,n,hk,hc,hs,hz,r⟩
 ·obtain ⟨⟨z,w⟩,its,r,p⟩:=h.ok I.hok
  exact w
 ·exact ⟨o,I.kIn a o hk,hc.2⟩
theorem Inv.list_inj (I:Inv X pins σ H s) (h:SqL X.K H a xs) (h':SqL X.K H a ys):xs=ys:=by
 obtain ⟨its,r,⟨o,n,e,_,_,d⟩,_⟩:=I.list h
 obtain ⟨its',r',⟨o',n',e',_,_,d'⟩,_⟩:=I.list h'
 rw [e] at e'; cases e'
 rw [d] at d'
 injection d' with d1 _
 have:its=its':=by simpa using congrArg Array.toList d1
 subst this
 exact r.inj r'
theorem Inv.tuple_inj (I:Inv X pins σ H s) (h:SqT X.K H a xs) (h':SqT X.K H a ys):xs=ys:=by
 obtain ⟨its,r,⟨o,e,_,n,d⟩,_⟩:=I.tuple h
 obtain ⟨its',r',⟨o',e',_,n',d'⟩,_⟩:=I.tuple h'
 rw [e] at e'; cases e'
 rw [d] at d'
 injection d' with d1 _
 have:its=its':=by simpa using congrArg Array.toList d1
 subst this
 exact r.inj r'
end
variable {te:TE} {tc:TT}
section
variable {st:Stmt} {rest:List Stmt} {t u:TS}
def qfP:TS:=fun D σ H=>D.nx σ H
def qhq (t u:TS):TS:=fun D σ H=>t { D with nx:=u D } σ H
theorem Ym:PSs X [] qfP:=⟨fun _ _ σ H _ I h=>wpAny_execs_nil ⟨σ,H,I,h⟩⟩
theorem Gj (h1:PS X st t) (h2:PSs X rest u):PSs X (st::rest) (qhq t u):=by
 refine ⟨?_⟩
 intro pins s σ H D I h
 refine wpAny_execs_cons (thn (h1 pins s σ H { D with nx:=u D } I h) fun f s1 q=>?_)
 cases f with
 | next=>
  obtain ⟨σ',H',I',q⟩:=q
  exact h2 pins s1 σ' H' D I' q
 | ret v=>exact q
 | brk=>exact q
 | cont=>exact q
theorem qbO (h1:PS X st t):PSs X [st] t:=by
 refine ⟨?_⟩
 intro pins s σ H D I h
 refine wpAny_execs_cons (thn (h1 pins s σ H D I h) fun f s1 q=>?_)
 cases f with
 | next=>exact wpAny_execs_nil q
 | ret v=>exact q
 | brk=>exact q
 | cont=>exact q
theorem Inv.quiet (I:Inv X pins σ H s):interactive X.env=false:=by simp [interactive,I.ok.kind]
def qfQ (te:TE):TS:=fun D σ H=>te σ H fun _ H1=>D.nx σ H1
theorem qbP (he:PE X e te) (hs:swapsWith e none pos.line X.env=pure false:=by rfl):PS X (.Expr e pos) (qfQ te):=by
 refine ⟨?_⟩
 intro pins s σ H D I h
 exact wpAny_Expr_any (thn (he pins s σ H _ I h) fun v s1 ⟨x,H1,I1,r1,q1⟩=>⟨σ,H1,I1,q1⟩) I.quiet hs
def qhr (te:TE):TS:=fun D σ H=>te σ H D.rt
theorem qdF (he:PE X e te):PS X (.Return (some e) pos) (qhr te):=by
 refine ⟨?_⟩
 intro pins s σ H D I h
 exact wpAny_Return_some (thn (he pins s σ H _ I h) fun v s1 ⟨x,H1,I1,r1,q1⟩=>⟨x,σ,H1,I1,r1,q1⟩)
def qhs (c:TT) (t u:TS):TS:=fun D σ H=>c σ H fun b H1=>if b=true then t D σ H1 else u D σ H1
theorem qfR {a b:List Stmt} (hc:PT X c tc) (ha:PSs X a t) (hb:PSs X b u):PS X (.If c a b pos) (qhs tc t u):=by
 refine ⟨?_⟩
 intro pins s σ H D I h
 refine wpAny_If (thn (hc pins s σ H _ I h) fun d s1 ⟨H1,I1,q1⟩=>?_)
 cases d with
 | true=>exact ha pins s1 σ H1 D I1 q1
 | false=>exact hb pins s1 σ H1 D I1 q1
end
abbrev TG:=V->St->Hp->(St->Hp->Prop)->Prop
abbrev TGs:=List V->St->Hp->(St->Hp->Prop)->Prop
structure PG (X:Cx) (target:Expr) (t:TG):Prop where
 run:∀ (pins:List (Addr×Obj)) (s:Shared) (σ:St) (H:Hp) (v:V) (u:Value) (Q:St->Hp->Prop),Inv X pins σ H s->RelV v u->t v σ H Q ->
  wpAny (model X.prog X.w) X.A (assign target X.env u) (fun _ s'=>∃ σ' H',Inv X pins σ' H' s'/\Q σ' H') X.xe s
instance {X:Cx} {target:Expr} {t:TG}:CoeFun (PG X target t) (fun _=>∀ (pins:List (Addr×Obj)) (s:Shared) (σ:St) (H:Hp) (v:V) (u:Value) (Q:St->Hp->Prop),Inv X pins σ H s->RelV v u->t v σ H Q ->
  wpAny (model X.prog X.w) X.A (assign target X.env u) (fun _ s'=>∃ σ' H',Inv X pins σ' H' s'/\Q σ' H') X.xe s):=⟨fun h=>h.run⟩
structure PGs (X:Cx) (ts:List Expr) (t:TGs):Prop where
 run:∀ (pins:List (Addr×Obj)) (s:Shared) (σ:St) (H:Hp) (vs:List V) (us:List Value) (Q:St->Hp->Prop),Inv X pins σ H s->Vals vs us->t vs σ H Q ->
  wpAny (model X.prog X.w) X.A (assignInOrder ((assignEach ts X.env).map (·.2)) us) (fun _ s'=>∃ σ' H',Inv X pins σ' H' s'/\Q σ' H') X.xe s
instance {X:Cx} {ts:List Expr} {t:TGs}:CoeFun (PGs X ts t) (fun _=>∀ (pins:List (Addr×Obj)) (s:Shared) (σ:St) (H:Hp) (vs:List V) (us:List Value) (Q:St->Hp->Prop),Inv X pins σ H s->Vals vs us->t vs σ H Q ->
  wpAny (model X.prog X.w) X.A (assignInOrder ((assignEach ts X.env).map (·.2)) us) (fun _ s'=>∃ σ' H',Inv X pins σ' H' s'/\Q σ' H') X.xe s):=⟨fun h=>h.run⟩
abbrev qfS:=V->V->V->Hp->(Hp->Prop)->Prop
def qgU (X:Cx) (t:qfS):Prop:=
 ∀ (pins:List (Addr×Obj)) (s:Shared) (σ:St) (H:Hp) (o i v:V) (ov iv u:Value) (Q:Hp->Prop),Inv X pins σ H s->RelV o ov->RelV i iv->RelV v u->t o i v H Q ->
  wpAny (model X.prog X.w) X.A (setItem ov iv u) (fun _ s'=>∃ H',Inv X pins σ H' s'/\Q H') X.xe s
variable {es:List Expr} {tg:Expr}
section
def qdG (i:Nat):TG:=fun v σ H Q=>Q (σ.set i (some v)) H
theorem qbQ (hN:X.N.Nodup) (hi:X.N[i]?=some x) (hx:Loc X.env.scope x) (hf:X.fn x=true\/X.env.scope.names.lookup x=some .local:=by first | exact .inl rfl | exact .inr rfl | assumption):PG X (.Name x pos) (qdG i):=by
 refine ⟨?_⟩
 intro pins s σ H v u Q I r h
 exact wpAny_assign_Name (Qf I hN hi hx r (fun s' I'=>⟨_,H,I',h⟩) hf)
def qht:TGs:=fun vs σ H Q=>vs=[]/\Q σ H
def qfT (t:TG) (u:TGs):TGs:=fun vs σ H Q=>∃ v r,vs=v::r/\t v σ H fun σ' H'=>u r σ' H' Q
theorem qbR:PGs X [] qht:=by
 refine ⟨?_⟩
 intro pins s σ H vs us Q I r h
 obtain ⟨e,h⟩:=h
 subst e
 cases r
 exact assignInOrder_nil ⟨σ,H,I,h⟩
theorem Gk {t:TG} {u:TGs} (h1:PG X e t) (h2:PGs X es u)
  (hs:(assignEach (e::es) X.env).map (·.2)=assign e X.env::(assignEach es X.env).map (·.2):=by rfl):PGs X (e::es) (qfT t u):=by
 refine ⟨?_⟩
 intro pins s σ H vs us Q I r h
 obtain ⟨v,vr,e1,h⟩:=h
 subst e1
 cases r with
 | cons r rr=>
  rw [hs]
  refine assignInOrder_cons (thn (h1 pins s σ H _ _ _ I r h) fun _ s1 ⟨σ1,H1,I1,q1⟩=>?_)
  exact h2 pins s1 σ1 H1 _ _ Q I1 rr q1
def qhu (K:Frag) (n:Nat) (t:TGs):TG:=fun v σ H Q=>∃ a xs,v=.ref a/\SqT K H a xs/\xs.length=n/\t xs σ H Q
theorem qdH {k:Nat} {t:TGs} {n:Nat} (hc:X.calm=true) (h:PGs X es t)
  (hn:(assignEach es X.env).length=n:=by rfl) (hst:(assignEach es X.env).findIdx? (·.1)=none:=by rfl):PG X (.Tuple es k pos) (qhu X.K n t):=by
 refine ⟨?_⟩
 intro pins s σ H v u Q I r hw
 obtain ⟨a,xs,e1,hq,hl,hw⟩:=hw
 subst e1
 cases r
 obtain ⟨its,rv,ht,hz⟩:=I.tuple hq
 refine assign_Tuple_tuple (I.ok.hd hc) ht (by simp [hn,<-hl,rv.length]) hst fun h' hx=>?_
 have I1:Inv X pins σ H { s with heap:=h' }:=I.kept (t':=s.toks) fun b o e=>hx b o (aD (ap e)) e
 exact h pins _ σ H xs _ Q I1 (by simpa using rv) hw
def qhv (to ti:TE) (t:qfS):TG:=fun v σ H Q=>to σ H fun o H1=>ti σ H1 fun i H2=>t o i v H2 fun H3=>Q σ H3
theorem qdI {o i:Expr} {to ti:TE} {t:qfS} (ho:PE X o to) (hi:PE X i ti) (hs:qgU X t)
  (ha:∀ v,assign (.Subscript o i pos) X.env v=(do
   let ov <-holding [v] (eval o X.env)
   let iv <-holding [v,ov] (eval i X.env)
   standAt pos
   holding [v,ov,iv] (setItem ov iv v)
   release [v,ov,iv] []):=by intro _; rfl):PG X (.Subscript o i pos) (qhv to ti t):=by
 refine ⟨?_⟩
 intro pins s σ H v u Q I r h
 rw [ha]
 refine wpAny_bind (wpAny_holding (thn (ho pins s σ H _ I h) fun ov s1 ⟨x,H1,I1,r1,q1⟩=>?_))
 refine wpAny_bind (wpAny_holding (thn (hi pins s1 σ H1 _ I1 q1) fun iv s2 ⟨y,H2,I2,r2,q2⟩=>?_))
 refine wpAny_bind (wpAny_standAt (wpAny_bind (wpAny_holding (thn (hs pins s2 σ H2 x y v ov iv u _ I2 r1 r2 r q2) fun _ s3 ⟨H3,I3,q3⟩=>?_))))
 exact wpAny_release ⟨σ,H3,I3,q3⟩
def qgV (te:TE) (g:TG):TS:=fun D σ H=>te σ H fun x H1=>g x σ H1 D.nx
theorem qa8 {g:TG} (he:PE X e te) (hg:PG X tg g) (hs:swapsWithSole [tg] e pos.line X.env=pure false:=by rfl) (hw:swappedStores [tg] e X.env=pure none:=by rfl)
  (h1:(assignEach [tg] X.env).map (·.2)=[assign tg X.env]:=by rfl):PS X (.Assign [tg] e pos) (qgV te g):=by
 refine ⟨?_⟩
 intro pins s σ H D I h
 refine wpAny_Assign_stores (thn (he pins s σ H _ I h) fun v s1 ⟨x,H1,I1,r1,q1⟩=>?_) hs hw
 rw [h1]
 exact thn (hg pins s1 σ H1 x v _ I1 r1 q1) fun _ s2 q=>q
theorem qa9 {pos':Pos} (hN:X.N.Nodup) (hi:X.N[i]?=some x) (hx:Loc X.env.scope x) (he:PE X e te) (hs:swapsWith e (some (.Name x pos')) pos.line X.env=pure false:=by rfl) (hf:X.fn x=true\/X.env.scope.names.lookup x=some .local:=by first | exact .inl rfl | exact .inr rfl | assumption) :
  PS X (.Assign [.Name x pos'] e pos) (qgV te (qdG i)):=by
 refine ⟨?_⟩
 intro pins s σ H D I h
 refine wpAny_Assign_Name (thn (he pins s σ H _ I h) fun v s1 ⟨y,H1,I1,r1,q1⟩=>?_) hs
 exact Qf I1 hN hi hx r1 (fun s2 I2=>⟨_,H1,I2,q1⟩) hf
end
variable {tb:TS} {body:List Stmt}
section
def qdJ (c:TT) (tb:TS):TS:=fun D σ H=>∃ W:Nat->St->Hp->Prop,(∃ m,W m σ H)/\∀ m σ H,W m σ H ->
 c σ H fun b H1=>if b=true then ∃ N:St->Hp->Prop,(∀ σ' H',N σ' H'->∃ m',m' < m/\W m' σ' H')/\tb { D with nx:=N,ct:=N,bk:=D.nx } σ H1 else D.nx σ H1
theorem Gm (hp:PassesOwn (model X.prog X.w) X.A X.env X.xe) (hc:PT X c tc) (hb:PSs X body tb):PS X (.While c body [] pos) (qdJ tc tb):=by
 refine ⟨?_⟩
 intro pins s σ H D I h
 obtain ⟨W,⟨m0,w0⟩,turn⟩:=h
 refine wpAny_While (codeAny_whileLoop (fun n s'=>∃ σ' H',Inv X pins σ' H' s'/\W n σ' H') ?_ m0 ⟨σ,H,I,w0⟩)
 rintro n s1 ⟨σ1,H1,I1,w1⟩
 refine wpAny_passesOwn hp (thn (hc pins s1 σ1 H1 _ I1 (turn n σ1 H1 w1)) fun b s2 ⟨H2,I2,q2⟩=>?_)
 cases b with
 | true=>
  obtain ⟨N,hN,q2⟩:=q2
  rw [if_pos rfl]
  refine wpAny_passesOwn hp (thn (hb pins s2 σ1 H2 _ I2 q2) fun f s3 q3=>?_)
  cases f with
  | next=>
   obtain ⟨σ3,H3,I3,n3⟩:=q3
   obtain ⟨m',hm,w3⟩:=hN σ3 H3 n3
   exact ⟨m',hm,σ3,H3,I3,w3⟩
  | cont=>
   obtain ⟨σ3,H3,I3,n3⟩:=q3
   obtain ⟨m',hm,w3⟩:=hN σ3 H3 n3
   exact ⟨m',hm,σ3,H3,I3,w3⟩
  | brk=>exact q3
  | ret v=>exact q3
 | false=>
  rw [if_neg br]
  exact wpAny_execs_nil ⟨σ1,H2,I2,q2⟩
end
structure It where
 go:Nat->Hp->Prop
 yld:Nat->Hp->V->Hp->Prop
 stop:Nat->Hp->Prop
def KP (X:Cx) (pins:List (Addr×Obj)) (H:Hp) (b:Addr):Prop:=
 H b=none/\b≠X.env.locals/\b∉X.fs/\(b∈X.ex\/X.s₀.heap.objs.size<=b)/\(∀ x c,X.env.cells.lookup x=some c->c≠b)/\∀ p∈X.pn++pins,p.1≠b
theorem Inv.fpOk (I:Inv X pins σ H s) (hb:s.heap.objs.size<=b) (hn:H' b=none):KP X pins H' b:=by
 refine ⟨hn,cf (aH I.lt hb),I.nofs hb,.inr (be I.sz hb),fun x c e z=>?_,fun p hp z=>?_⟩
 ·obtain ⟨v,q⟩:=I.cell x c e
  exact absurd (aH q.lt (by rw [z]; exact hb)) (bR _)
 ·exact absurd (aH (ap (I.pin p hp).1) (by rw [z]; exact hb)) (bR _)
structure Turn (P:Program) (w:World) (K:Frag) (tg:Expr) (J:It) (fp:List Addr) (it:Addr) (tn:Nat->Heap->Prop):Prop where
 mem:it∈fp
 obj:∀ i h,tn i h->∀ b∈fp,∃ o,h.get? b=some o/\∀ v,o.data≠.cell v
 keep:∀ i h h',tn i h->(∀ b∈fp,∀ o,h.get? b=some o->h'.get? b=some o)->tn i h'
 item:∀ (X:Cx),X.prog=P->X.w=w->X.K=K->X.calm=true->∀ (i:Nat) (pins:List (Addr×Obj)) (s:Shared) (σ:St) (H:Hp) (E:Value->Shared->Prop),Inv X pins σ H s->(∀ b∈fp,KP X pins H b)->tn i s.heap->J.go i H ->
  wpAny (model P w) X.A (pyNext (.ref it)) (fun r s1=>∃ u,r=some u /\
   wpAny (model P w) X.A (letOwnedTupleGo tg (.ref it) u) (fun _ s2=>∃ x H',Inv X pins σ H' s2/\RelV x u/\J.yld i H x H'/\tn (i+1) s2.heap/\∀ b∈fp,H' b=none) E s1) E s
 done:∀ (X:Cx),X.prog=P->X.w=w->X.K=K->X.calm=true->∀ (i:Nat) (pins:List (Addr×Obj)) (s:Shared) (σ:St) (H:Hp) (E:Value->Shared->Prop),Inv X pins σ H s->(∀ b∈fp,KP X pins H b)->tn i s.heap->J.stop i H ->
  wpAny (model P w) X.A (pyNext (.ref it)) (fun r s1=>r=none/\Inv X pins σ H s1) E s
 self:∀ (A:Around) (i:Nat) (s:Shared) (Q:Value->Shared->Prop) (E:Value->Shared->Prop),tn i s.heap->Q (.ref it) s->wpAny (model P w) A (pyIter (.ref it)) Q E s
abbrev TI:=St->Hp->(It->Hp->Prop)->Prop
def PIE (X:Cx) (pins:List (Addr×Obj)) (σ:St) (tg:Expr) (R:It->Hp->Prop) (itv:Value) (s2:Shared):Prop:=
 ∃ (it:Addr) (fp:List Addr) (tn:Nat->Heap->Prop) (J:It) (H':Hp),itv=.ref it/\Inv X pins σ H' s2/\Turn X.prog X.w X.K tg J fp it tn/\tn 0 s2.heap/\(∀ b∈fp,KP X pins H' b)/\R J H'
structure PI (X:Cx) (tg iter:Expr) (wi:TI):Prop where
 run:∀ (pins:List (Addr×Obj)) (s:Shared) (σ:St) (H:Hp) (R:It->Hp->Prop),Inv X pins σ H s->wi σ H R ->
  wpAny (model X.prog X.w) X.A (eval iter X.env) (fun v s1=>wpAny (model X.prog X.w) X.A (pyIter v) (PIE X pins σ tg R) X.xe s1) X.xe s
instance {X:Cx} {tg iter:Expr} {wi:TI}:CoeFun (PI X tg iter wi) (fun _=>∀ (pins:List (Addr×Obj)) (s:Shared) (σ:St) (H:Hp) (R:It->Hp->Prop),Inv X pins σ H s->wi σ H R ->
  wpAny (model X.prog X.w) X.A (eval iter X.env) (fun v s1=>wpAny (model X.prog X.w) X.A (pyIter v) (PIE X pins σ tg R) X.xe s1) X.xe s):=⟨fun h=>h.run⟩
theorem Yn {M:Model} {A:Around} {E:Value->Shared->Prop} {tg:Expr} {u:Value} {o:Obj} {n:String} {vs:Array Value} {Q:Unit->Shared->Prop} (ho:s.heap.get? it=some o) (hc:o.cls=.type n) (hd:o.data=.fields vs)
    (hn:["enumerate", "zip", "dict_itemiterator", "dict_reverseitemiterator", "odict_iterator", "itertools.zip_longest", "itertools.pairwise"].contains n=false) (hQ:Q () s):wpAny M A (letOwnedTupleGo tg (.ref it) u) Q E s:=by
  unfold letOwnedTupleGo
  cases tg <;> first
    | exact wpAny_pure hQ
    | (cases u <;> first
        | exact wpAny_pure hQ
        | (refine wpAny_bind (wpAny_load ho ?_)
           rw [hc,hd]
           show wpAny M A (if (["enumerate", "zip", "dict_itemiterator", "dict_reverseitemiterator", "odict_iterator", "itertools.zip_longest", "itertools.pairwise"].contains n&&vs[0]? == some (rawInt _))=true then _ else _) Q E s
           rw [if_neg (by intro h; rw [hn,Bool.false_and] at h; cases h)]
           exact wpAny_pure hQ))
noncomputable def Itl (K:Frag) (a:Addr):It:=
 ⟨fun i H=>∃ xs x,SqL K H a xs/\xs[i]?=some x,fun i H x H'=>H'=H/\∀ xs,SqL K H a xs->xs[i]?=some x,fun i H=>∃ xs,SqL K H a xs/\xs.length<=i⟩
noncomputable def Itt (K:Frag) (a:Addr):It:=
 ⟨fun i H=>∃ xs x,SqT K H a xs/\xs[i]?=some x,fun i H x H'=>H'=H/\∀ xs,SqT K H a xs->xs[i]?=some x,fun i H=>∃ xs,SqT K H a xs/\xs.length<=i⟩
noncomputable def Itr (lo:Int) (n:Nat):It:=⟨fun i _=>i < n,fun i H x H'=>H'=H/\x=.int (lo+i),fun i _=>n<=i⟩
theorem Yo (a it:Addr):Turn P w K tg (Itl K a) [it] it (fun i h=>h.IsListIter it a i) where
 mem:=by simp
 obj:=fun i h st b hb=>by
  have e:b=it:=by simpa using hb
  subst e
  obtain ⟨o,e,c,d⟩:=st
  exact ⟨o,e,fun v z=>by rw [d] at z; cases z⟩
 keep:=fun i h h' st k=>st.at fun o e=>k it (by simp) o e
 item:=by
  intro X hP hw hK hc i pins s σ H E I hf st hg
  subst hP hw hK
  obtain ⟨xs,x,hq,hx⟩:=hg
  obtain ⟨its,rv,p,hz⟩:=I.list hq
  obtain ⟨u,hu,ru⟩:=rv.get hx
  obtain ⟨f0,f1,f2,f3,f4,f5⟩:=hf it (by simp)
  refine wpAny_pyNext_list_item st p.isList (x:=u) (by simpa using hu) fun h' st' sb=>?_
  have I1:Inv X pins σ H { s with heap:=h' }:=I.turned (t':=s.toks) (fun b o hb e=>(sb.2 b hb).trans e) f0 f1 f3 f4 f5
  obtain ⟨o,e,c,d⟩:=id st'
  exact ⟨u,rfl,Yn (s:={ s with heap:=h' }) e c d (by decide) ⟨x,H,I1,ru,⟨rfl,fun ys hy=>by rw [I.list_inj hy hq]; exact hx⟩,st',fun b hb=>(hf b hb).1⟩⟩
 done:=by
  intro X hP hw hK hc i pins s σ H E I hf st hg
  subst hP hw hK
  obtain ⟨xs,hq,hx⟩:=hg
  obtain ⟨its,rv,p,hz⟩:=I.list hq
  obtain ⟨f0,f1,f2,f3,f4,f5⟩:=hf it (by simp)
  have hl:=rv.length
  exact wpAny_pyNext_list_end (I.ok.hd hc) st p.isList (by simp; omega) fun h' eb=>⟨rfl,I.turned (t':=s.toks) (fun b o hb e=>eb b o hb e) f0 f1 f3 f4 f5⟩
 self:=fun _ _ _ _ _ st h=>wpAny_pyIter_listiter st h
theorem Ul (a it:Addr):Turn P w K tg (Itt K a) [it] it (fun i h=>h.IsTupleIter it a i) where
 mem:=by simp
 obj:=fun i h st b hb=>by
  have e:b=it:=by simpa using hb
  subst e
  obtain ⟨o,e,c,d⟩:=st
  exact ⟨o,e,fun v z=>by rw [d] at z; cases z⟩
 keep:=fun i h h' st k=>st.at fun o e=>k it (by simp) o e
 item:=by
  intro X hP hw hK hc i pins s σ H E I hf st hg
  subst hP hw hK
  obtain ⟨xs,x,hq,hx⟩:=hg
  obtain ⟨its,rv,p,hz⟩:=I.tuple hq
  obtain ⟨u,hu,ru⟩:=rv.get hx
  obtain ⟨f0,f1,f2,f3,f4,f5⟩:=hf it (by simp)
  refine wpAny_pyNext_tuple_item st (show s.heap.IsTuple a its.toArray from p) (x:=u) (by simpa using hu) fun h' st' sb=>?_
  have I1:Inv X pins σ H { s with heap:=h' }:=I.turned (t':=s.toks) (fun b o hb e=>(sb.2 b hb).trans e) f0 f1 f3 f4 f5
  obtain ⟨o,e,c,d⟩:=id st'
  exact ⟨u,rfl,Yn (s:={ s with heap:=h' }) e c d (by decide) ⟨x,H,I1,ru,⟨rfl,fun ys hy=>by rw [I.tuple_inj hy hq]; exact hx⟩,st',fun b hb=>(hf b hb).1⟩⟩
 done:=by
  intro X hP hw hK hc i pins s σ H E I hf st hg
  subst hP hw hK
  obtain ⟨xs,hq,hx⟩:=hg
  obtain ⟨its,rv,p,hz⟩:=I.tuple hq
  obtain ⟨f0,f1,f2,f3,f4,f5⟩:=hf it (by simp)
  have hl:=rv.length
  exact wpAny_pyNext_tuple_end (I.ok.hd hc) st (show s.heap.IsTuple a its.toArray from p) (by simp; omega) fun h' eb=>⟨rfl,I.turned (t':=s.toks) (fun b o hb e=>eb b o hb e) f0 f1 f3 f4 f5⟩
 self:=fun _ _ _ _ _ st h=>wpAny_pyIter_tupleiter st h
theorem Um (it:Addr) (lo:Int) (n:Nat):Turn P w K tg (Itr lo n) [it] it (fun i h=>IsRangeIter h it (lo+(i:Nat) * 1) ((n:Int) - (i:Nat)) 1) where
 mem:=by simp
 obj:=fun i h st b hb=>by
  have e:b=it:=by simpa using hb
  subst e
  exact ⟨_,st,fun v z=>by
   have z':Data.fields _=Data.cell v:=z
   cases z'⟩
 keep:=fun i h h' st k=>k it (by simp) _ st
 item:=by
  intro X hP hw hK hc i pins s σ H E I hf st hg
  subst hP hw hK
  obtain ⟨f0,f1,f2,f3,f4,f5⟩:=hf it (by simp)
  have W:=Walks.range (prog:=X.prog) (w:=X.w) (I.ok.hd hc) it lo 1 n
  refine W.item i s _ _ hg st fun v h' tk hv st' kk=>?_
  obtain ⟨t,rfl⟩:=hv
  have I1:Inv X pins σ H { s with heap:=h',toks:=tk }:=I.turned (fun b o hb e=>kk b o (by simpa using hb) e) f0 f1 f3 f4 f5
  refine ⟨_,rfl,Yn (s:={ s with heap:=h',toks:=tk }) (n := "range_iterator") st' rfl rfl (by decide) ⟨.int (lo+i),H,I1,⟨t,?_⟩,⟨rfl,rfl⟩,st',fun b hb=>(hf b hb).1⟩⟩
  rw [Int.mul_one]
 done:=by
  intro X hP hw hK hc i pins s σ H E I hf st hg
  subst hP hw hK
  obtain ⟨f0,f1,f2,f3,f4,f5⟩:=hf it (by simp)
  exact wpAny_pyNext_range_end (I.ok.hd hc) st (by have:n<=i:=hg; omega) fun h' eb=>⟨rfl,I.turned (t':=s.toks) (fun b o hb e=>eb b o hb e) f0 f1 f3 f4 f5⟩
 self:=fun _ _ _ _ _ st h=>wpAny_pyIter_rangeiter st h
variable {p:Pos} {fp:List Addr}
section
theorem Gn {R:It->Hp->Prop} {E:Value->Shared->Prop} {lo hi:Int} {t u v:Tok} {tk:Nat} (I:Inv X pins σ H s) (h1:-(2 ^ 62)<=lo) (h2:lo < 2 ^ 62) (h3:-(2 ^ 62)<=hi) (h4:hi < 2 ^ 62)
  (q:R (Itr lo (hi - lo).toNat) H):wpAny (model X.prog X.w) X.A (pyIter (.ref s.heap.objs.size)) (PIE X pins σ tg R) E { s with heap:=s.heap.push { cls:=.type "range",data:=.fields #[.int lo t,.int hi u,.int 1 v] },toks:=tk }:=by
 refine wpAny_pyIter_range (IsRange.new ..) (small_one h1 h2 h3 h4) ?_
 have I1:Inv X pins σ H { s with heap:=s.heap.push { cls:=.type "range",data:=.fields #[.int lo t,.int hi u,.int 1 v] },toks:=tk }:=I.kept fun b o e=>ae _ e
 refine ⟨(s.heap.push { cls:=.type "range",data:=.fields #[.int lo t,.int hi u,.int 1 v] }).objs.size,[(s.heap.push { cls:=.type "range",data:=.fields #[.int lo t,.int hi u,.int 1 v] }).objs.size],_,_,H,rfl,
  I1.kept (t':=tk) fun b o e=>ae _ e,Um _ lo (hi - lo).toNat,?_,fun b hb=>?_,q⟩
 ·have e1:lo+((0:Nat):Int) * 1=lo:=by simp
  have e2:(((hi - lo).toNat:Nat):Int) - ((0:Nat):Int)=Builtin.Range.rangeSize lo hi 1:=by rw [rangeSize_one]; split <;> omega
  show IsRangeIter _ _ (lo+((0:Nat):Int) * 1) ((((hi - lo).toNat:Nat):Int) - ((0:Nat):Int)) 1
  rw [e1,e2]
  exact ak _ rfl
 ·have e:b=(s.heap.push { cls:=.type "range",data:=.fields #[.int lo t,.int hi u,.int 1 v] }).objs.size:=by simpa using hb
  subst e
  exact I1.fpOk (aB _) (I1.hok.fresh (aB _))
def qfU (ta:TA):TI:=fun σ H R=>ta σ H fun vs H1=>∃ j:Int,vs=[.int j]/\-(2 ^ 62)<=j/\j < 2 ^ 62/\R (Itr 0 j.toNat) H1
theorem Yp {a:Expr} {ta:TA} (hg:Gl X "range") (hm:X.mg "range"=none) (ha:PA X [a] ta) (hs:starEach [a] X.env=[(false,eval a X.env)]:=by rfl):PI X tg (.Call (.Name "range" p) [a] [] pos) (qfU ta):=by
 refine ⟨?_⟩
 intro pins s σ H R I h
 refine Call_ (xq I hg hm boot_range (bz (thn (ha pos pins s σ H _ I h) fun us s1 ⟨vs,H1,I1,r1,q1⟩=>?_) hs rfl))
 obtain ⟨j,e,q1,q2,q⟩:=q1
 subst e
 cases r1 with
 | cons r rr=>
  cases rr
  obtain ⟨t,rfl⟩:=r
  exact call_range_1 (Gn I1 (by omega) (by omega) q1 q2 (by simpa using q))
def qhw (wi:TI) (g:TG) (tb:TS):TS:=fun D σ H=>wi σ H fun J H1=>∃ W:Nat->Nat->St->Hp->Prop,(∃ m,W 0 m σ H1)/\∀ i m σ H,W i m σ H ->
 (J.stop i H/\D.nx σ H)\/(J.go i H/\∃ N:St->Hp->Prop,(∀ σ' H',N σ' H'->∃ m',m' < m/\W (i+1) m' σ' H')/\∀ x H',J.yld i H x H'->g x σ H' fun σ2 H2=>tb { D with nx:=N,ct:=N,bk:=D.nx } σ2 H2)
noncomputable def JD (fp:List Addr) (h:Heap):List (Addr×Obj):=fp.filterMap fun b=>(h.get? b).map fun o=>(b,o)
theorem uj {o:Obj} (hb:b∈fp) (e:h.get? b=some o):(b,o)∈JD fp h:=eu.mpr ⟨b,hb,by rw [e]; rfl⟩
theorem Yq {p:Addr×Obj} (hp:p∈JD fp h):p.1∈fp/\h.get? p.1=some p.2:=by
 obtain ⟨b,hb,e⟩:=eu.mp hp
 cases q:h.get? b with
 | none=>rw [q] at e; cases e
 | some o=>
  rw [q] at e
  have e':(b,o)=p:=bc.inj e
  subst e'
  exact ⟨hb,q⟩
theorem Inv.pinned (I:Inv X pins σ H s) (hf:∀ b∈fp,KP X pins H b) (ho:∀ b∈fp,∃ o,s.heap.get? b=some o/\∀ v,o.data≠.cell v):Inv X (pins++JD fp s.heap) σ H s:=
 I.pins_of fun p hp=>(aj.mp hp).elim (fun z=>I.pin p (aK _ z)) fun z=>by
  obtain ⟨hb,e⟩:=Yq z
  obtain ⟨f0,f1,f2,_⟩:=hf p.1 hb
  obtain ⟨o,e',d⟩:=ho p.1 hb
  rw [e] at e'; cases e'
  exact ⟨e,f0,f1,f2,d⟩
theorem Inv.unpinned {pl:List (Addr×Obj)} (I:Inv X (pins++pl) σ H s):Inv X pins σ H s:=I.pins_of fun p hp=>I.pin p (aK _ (bP _ hp))
theorem qdK {iter:Expr} {wi:TI} {g:TG} {pos:Pos} (hp:PassesOwn (model X.prog X.w) X.A X.env X.xe) (hc:X.calm=true) (hi:PI X tg iter wi) (hg:PG X tg g) (hb:PSs X body tb)
  (hs:∀ x,foldedSetIterable iter X.env x=pure x:=by intro _; rfl):PS X (.For tg iter body [] pos) (qhw wi g tb):=by
 refine ⟨?_⟩
 intro pins s σ H D I h
 refine wpAny_For (thn (hi pins s σ H _ I h) fun v s1 h1=>thn h1 fun itv s2 h2=>?_) hs
 obtain ⟨it,fp,tn,J,H2,e,I2,T,st2,f2,W,⟨m0,w0⟩,turn⟩:=h2
 subst e
 have stat:∀ {H':Hp},(∀ b∈fp,H' b=none)->∀ b∈fp,KP X pins H' b:=fun hn b hb=>⟨hn b hb,(f2 b hb).2⟩
 refine codeAny_forLoop_any (fun n s'=>∃ i σ' H',Inv X pins σ' H' s'/\tn i s'.heap/\(∀ b∈fp,H' b=none)/\W i n σ' H') ?_ m0 ⟨0,σ,H2,I2,st2,fun b hb=>(f2 b hb).1,w0⟩
 rintro n s3 ⟨i,σ3,H3,I3,st3,fr3,w3⟩
 rcases turn i n σ3 H3 w3 with ⟨stop,qn⟩ | ⟨go,N,hN,step⟩
 ·refine wpAny_passesOwn hp (thn (T.done X rfl rfl rfl hc i pins s3 σ3 H3 X.xe I3 (stat fr3) st3 stop) fun r s4 ⟨hr,I4⟩=>?_)
  subst hr
  exact wpAny_execs_nil ⟨σ3,H3,I4,qn⟩
 ·refine wpAny_passesOwn hp (thn (T.item X rfl rfl rfl hc i pins s3 σ3 H3 X.xe I3 (stat fr3) st3 go) fun r s4 ⟨u,hr,h4⟩=>?_)
  subst hr
  refine wpAny_passesOwn hp (thn h4 fun _ s5 ⟨x,H5,I5,r5,y5,st5,fr5⟩=>?_)
  have I5':=I5.pinned (stat fr5) (T.obj _ _ st5)
  refine wpAny_passesOwn hp (thn (hg _ s5 σ3 H5 x u _ I5' r5 (step x H5 y5)) fun _ s6 ⟨σ6,H6,I6,q6⟩=>?_)
  refine wpAny_passesOwn hp (thn (hb _ s6 σ6 H6 _ I6 q6) fun f s7 q7=>?_)
  have again:∀ {σ7:St} {H7:Hp},Inv X (pins++JD fp s5.heap) σ7 H7 s7->N σ7 H7->∃ m,m < n/\∃ i σ' H',Inv X pins σ' H' s7/\tn i s7.heap/\(∀ b∈fp,H' b=none)/\W i m σ' H':=fun {σ7 H7} I7 n7=>by
   obtain ⟨m',hm,w7⟩:=hN σ7 H7 n7
   refine ⟨m',hm,i+1,σ7,H7,I7.unpinned,T.keep _ _ _ st5 fun b hb o e=>(I7.pin (b,o) (aK _ (aK _ (uj hb e)))).1,fun b hb=>?_,w7⟩
   obtain ⟨o,e,d⟩:=T.obj _ _ st5 b hb
   exact (I7.pin (b,o) (aK _ (aK _ (uj hb e)))).2.1
  cases f with
  | next=>obtain ⟨σ7,H7,I7,n7⟩:=q7; exact again I7 n7
  | cont=>obtain ⟨σ7,H7,I7,n7⟩:=q7; exact again I7 n7
  | brk=>obtain ⟨σ7,H7,I7,q7⟩:=q7; exact ⟨σ7,H7,I7.unpinned,q7⟩
  | ret v=>obtain ⟨x7,σ7,H7,I7,r7,q7⟩:=q7; exact ⟨x7,σ7,H7,I7.unpinned,r7,q7⟩
end
abbrev R2:=V->V->Hp->VK->Prop
def OpR (X:Cx) (f:Value->Value->Sem Value) (r:R2):Prop:=
 ∀ (pins:List (Addr×Obj)) (s:Shared) (σ:St) (H:Hp) (x y:V) (v u:Value) (Q:VK),Inv X pins σ H s->RelV x v->RelV y u->r x y H Q ->
  wpAny (model X.prog X.w) X.A (f v u) (EP X pins σ Q) X.xe s
def UnR (X:Cx) (f:Value->Sem Value) (r:V->Hp->VK->Prop):Prop:=
 ∀ (pins:List (Addr×Obj)) (s:Shared) (σ:St) (H:Hp) (x:V) (v:Value) (Q:VK),Inv X pins σ H s->RelV x v->r x H Q ->
  wpAny (model X.prog X.w) X.A (f v) (EP X pins σ Q) X.xe s
def wH (X:Cx) (f:Value) (r:List V->Hp->VK->Prop):Prop:=
 ∀ (pins:List (Addr×Obj)) (s:Shared) (σ:St) (H:Hp) (xs:List V) (us:List Value) (Q:VK),Inv X pins σ H s->Vals xs us->r xs H Q ->
  wpAny (model X.prog X.w) X.A (call f us) (EP X pins σ Q) X.xe s
def qhx (X:Cx) (r:V->Hp->(Bool->Hp->Prop)->Prop):Prop:=
 ∀ (pins:List (Addr×Obj)) (s:Shared) (σ:St) (H:Hp) (x:V) (v:Value) (Q:Bool->Hp->Prop),Inv X pins σ H s->RelV x v->r x H Q ->
  wpAny (model X.prog X.w) X.A (truthy v) (TP X pins σ Q) X.xe s
def tOp (r:R2) (ta tb:TE):TE:=fun σ H Q=>ta σ H fun x H1=>tb σ H1 fun y H2=>r x y H2 Q
def tUn (r:V->Hp->VK->Prop) (ta:TE):TE:=fun σ H Q=>ta σ H fun x H1=>r x H1 Q
def rI (C:Int->Int->Prop) (g:Int->Int->V):R2:=fun x y H Q=>∃ i j,x=.int i/\y=.int j/\C i j/\Q (g i j) H
def rI0 (g:Int->Int->V):R2:=fun x y H Q=>∃ i j,x=.int i/\y=.int j/\Q (g i j) H
def rU (g:Int->V):V->Hp->VK->Prop:=fun x H Q=>∃ i,x=.int i/\Q (g i) H
variable {r:R2}
section
variable {a b:Expr} {tb tc:TE}
theorem qfV (ha:PE X a ta) (hb:PE X b tb) {R:V->V->Hp->Prop} (I:Inv X pins σ H s)
  (h:ta σ H fun x H1=>tb σ H1 fun y H2=>R x y H2) {Q:Value->Shared->Prop} {f:Value->Value->Sem Value}
  (hf:∀ v u s2 x y H2,Inv X pins σ H2 s2->RelV x v->RelV y u->R x y H2->wpAny (model X.prog X.w) X.A (f v u) Q X.xe s2) :
  wpAny (model X.prog X.w) X.A (eval a X.env) (fun v s₁=>wpAny (model X.prog X.w) X.A (eval b X.env) (fun u s₂=>wpAny (model X.prog X.w) X.A (f v u) Q X.xe s₂) X.xe s₁) X.xe s:=by
 refine thn (ha pins s σ H _ I h) fun v s1 ⟨x,H1,I1,r1,q1⟩=>?_
 refine thn (hb pins s1 σ H1 _ I1 q1) fun u s2 ⟨y,H2,I2,r2,q2⟩=>?_
 exact hf v u s2 x y H2 I2 r1 r2 q2
theorem qfW {op:Operator} (ho:OpR X (binaryOp op) r) (ha:PE X a ta) (hb:PE X b tb):PE X (.BinOp a op b pos) (tOp r ta tb):=by
 refine ⟨?_⟩
 intro pins s σ H Q I h
 exact wpAny_BinOp (qfV ha hb I h fun v u s2 x y H2 I2 rx ry q=>ho pins s2 σ H2 x y v u Q I2 rx ry q)
theorem qfX {op:UnaryOp} {r:V->Hp->VK->Prop} (ho:UnR X (unaryOp op) r) (ha:PE X a ta):PE X (.UnaryOp op a pos) (tUn r ta):=by
 refine ⟨?_⟩
 intro pins s σ H Q I h
 exact UnaryOp_ (thn (ha pins s σ H _ I h) fun v s1 ⟨x,H1,I1,r1,q1⟩=>ho pins s1 σ H1 x v Q I1 r1 q1)
theorem opI {f:Value->Value->Sem Value} {C:Int->Int->Prop} {g:Int->Int->Int}
  (rule:∀ (i j:Int) (t u:Tok) (s:Shared) (Q:Value->Shared->Prop) (E:Value->Shared->Prop),C i j->Q (.int (g i j) s.toks) { s with toks:=s.toks+1 }->wpAny (model X.prog X.w) X.A (f (.int i t) (.int j u)) Q E s) :
  OpR X f (rI C fun i j=>.int (g i j)):=by
 intro pins s σ H x y v u Q I rx ry h
 obtain ⟨i,j,rfl,rfl,hc,q⟩:=h
 obtain ⟨t,rfl⟩:=rx
 obtain ⟨t',rfl⟩:=ry
 exact rule i j t t' s _ _ hc ⟨.int (g i j),H,I.tok _,⟨_,rfl⟩,q⟩
theorem qgW {f:Value->Value->Sem Value} {g:Int->Int->Int}
  (rule:∀ (i j:Int) (t u:Tok) (s:Shared) (Q:Value->Shared->Prop) (E:Value->Shared->Prop),Q (.int (g i j) s.toks) { s with toks:=s.toks+1 }->wpAny (model X.prog X.w) X.A (f (.int i t) (.int j u)) Q E s) :
  OpR X f (rI0 fun i j=>.int (g i j)):=by
 intro pins s σ H x y v u Q I rx ry h
 obtain ⟨i,j,rfl,rfl,q⟩:=h
 obtain ⟨t,rfl⟩:=rx
 obtain ⟨t',rfl⟩:=ry
 exact rule i j t t' s _ _ ⟨.int (g i j),H,I.tok _,⟨_,rfl⟩,q⟩
theorem qfu {f:Value->Value->Sem Value} {g:Int->Int->Bool}
  (rule:∀ (i j:Int) (t u:Tok) (s:Shared) (Q:Value->Shared->Prop) (E:Value->Shared->Prop),Q (.bool (g i j)) s->wpAny (model X.prog X.w) X.A (f (.int i t) (.int j u)) Q E s) :
  OpR X f (rI0 fun i j=>.bl (g i j)):=by
 intro pins s σ H x y v u Q I rx ry h
 obtain ⟨i,j,rfl,rfl,q⟩:=h
 obtain ⟨t,rfl⟩:=rx
 obtain ⟨t',rfl⟩:=ry
 exact rule i j t t' s _ _ ⟨.bl (g i j),H,I,rfl,q⟩
def qbS (i j:Int):Prop:=0 < j/\j < 1073741824
def qdp (i j:Int):Prop:=0<=j/\j<=1000000/\i.natAbs < 2 ^ 64
def CMul (i j:Int):Prop:=(-(2 ^ 64) < i/\i < 2 ^ 64)\/(-(2 ^ 64) < j/\j < 2 ^ 64)
theorem CMul.ok {i j:Int} (h:CMul i j):IntMulOk i j:=by
 rcases h with ⟨h1,h2⟩ | ⟨h1,h2⟩
 ·exact .of_left (intBits_le_64 h1 h2)
 ·exact .of_right (intBits_le_64 h1 h2)
theorem qdL:OpR X (binaryOp .Add) (rI0 fun i j=>.int (i+j)):=qgW fun _ _ _ _ _ _ _ q=>add_int q
theorem qdM:OpR X (binaryOp .Sub) (rI0 fun i j=>.int (i - j)):=qgW fun _ _ _ _ _ _ _ q=>sub_int q
theorem qdN:OpR X (binaryOp .Mult) (rI CMul fun i j=>.int (i * j)):=opI fun _ _ _ _ _ _ _ hc q=>mul_int q hc.ok
theorem qbT:OpR X (binaryOp .FloorDiv) (rI qbS fun i j=>.int (i / j)):=opI fun i j _ _ _ _ _ hc q=>by
 have h1:(0:Int) < j:=hc.1
 have h2:j < 1073741824:=hc.2
 exact floordiv_int (by omega) (by rw [Int.fdiv_eq_ediv_of_nonneg i (by omega)]; exact q) (.inl (PyProof.noPylong_small (by omega)))
theorem qdO:OpR X (binaryOp .Mod) (rI (fun _ j=>0 < j) fun i j=>.int (i % j)):=opI fun i j _ _ _ _ _ hc q=>by
 have h1:(0:Int) < j:=hc
 exact mod_int' (by omega) (by rw [Int.fmod_eq_emod_of_nonneg i (by omega)]; exact q)
theorem qba:OpR X (binaryOp .Pow) (rI qdp fun i j=>.int (i ^ j.toNat)):=opI fun _ _ _ _ _ _ _ hc q=>pow_int_small hc.1 hc.2.1 hc.2.2 q
theorem unI {f:Value->Sem Value} {g:Int->Int}
  (rule:∀ (i:Int) (t:Tok) (s:Shared) (Q:Value->Shared->Prop) (E:Value->Shared->Prop),Q (.int (g i) s.toks) { s with toks:=s.toks+1 }->wpAny (model X.prog X.w) X.A (f (.int i t)) Q E s) :
  UnR X f (rU fun i=>.int (g i)):=by
 intro pins s σ H x v Q I rx h
 obtain ⟨i,rfl,q⟩:=h
 obtain ⟨t,rfl⟩:=rx
 exact rule i t s _ _ ⟨.int (g i),H,I.tok _,⟨_,rfl⟩,q⟩
theorem qdP:UnR X (unaryOp .USub) (rU fun i=>.int (-i)):=unI fun _ _ _ _ _ q=>neg_int q
end
variable {op op':CmpOp} {r':R2}
section
variable {a b:Expr} {tb tc:TE}
theorem Yr {Q:VK} {k k':Bool} (I:Inv X pins σ H s) (q:Q (.bl k) H) (e:k=k'):EP X pins σ Q (.bool k') s:=by
 subst e
 exact ⟨.bl k,H,I,rfl,q⟩
theorem qfY:OpR X (compareOp .Lt) (rI0 fun i j=>.bl (decide (i < j))):=qfu fun _ _ _ _ _ _ _ q=>lt_int q
theorem qfZ:OpR X (compareOp .LtE) (rI0 fun i j=>.bl (decide (i<=j))):=qfu fun _ _ _ _ _ _ _ q=>le_int q
theorem qf0:OpR X (compareOp .Gt) (rI0 fun i j=>.bl (decide (j < i))):=qfu fun _ _ _ _ _ _ _ q=>gt_int q
theorem qf1:OpR X (compareOp .GtE) (rI0 fun i j=>.bl (decide (j<=i))):=qfu fun _ _ _ _ _ _ _ q=>ge_int q
theorem Ys:OpR X (compareOp .Lt) (fun x y H Q=>∃ i j,x=.str i/\y=.str j/\Q (.bl (decide (i.cps.toList < j.cps.toList))) H):=by
 intro pins s σ H x y v u Q I rx ry h
 obtain ⟨i,j,rfl,rfl,q⟩:=h
 obtain ⟨t,rfl⟩:=rx
 obtain ⟨t',rfl⟩:=ry
 exact lt_str (Yr I q rfl)
theorem qbU:OpR X (compareOp .IsNot) (fun x y H Q=>y=.non/\Q (.bl (!decide (x=.non))) H):=by
 intro pins s σ H x y v u Q I rx ry h
 obtain ⟨rfl,q⟩:=h
 cases ry
 refine isnot_none_gen (Yr I q ?_)
 cases x <;> first
  | (cases rx; rfl)
  | (obtain ⟨t,rfl⟩:=rx; rfl)
theorem qbb (b:Expr) (h:op≠.In:=by decide) (h2:op≠.NotIn:=by decide):behindInMarks op b=false:=by
 have e1:(op == CmpOp.In)=false:=by cases op <;> first | rfl | exact absurd rfl h
 have e2:(op == CmpOp.NotIn)=false:=by cases op <;> first | rfl | exact absurd rfl h2
 cases b <;> simp [behindInMarks,e1,e2]
theorem qbV (ho:OpR X (compareOp op) r) (ha:PE X a ta) (hb:PE X b tb) (hm:behindInMarks op b=false):PE X (.Compare a [op] [b] pos) (tOp r ta tb):=by
 refine ⟨?_⟩
 intro pins s σ H Q I h
 exact wpAny_Compare1 (qfV ha hb I h fun v u s2 x y H2 I2 rx ry q=>ho pins s2 σ H2 x y v u Q I2 rx ry q) hm
def qdQ (t:TE):TT:=fun σ H Q=>t σ H fun x H'=>∃ k,x=.bl k/\Q k H'
theorem qbW (ho:OpR X (compareOp op) r) (ha:PE X a ta) (hb:PE X b tb) (hm:behindInMarks op b=false):PT X (.Compare a [op] [b] pos) (qdQ (tOp r ta tb)):=by
 refine ⟨?_⟩
 intro pins s σ H Q I h
 refine wpAny_isTrue_Compare1 (thn (ha pins s σ H _ I h) fun v s1 ⟨x,H1,I1,r1,q1⟩=>thn (hb pins s1 σ H1 _ I1 q1) fun u s2 ⟨y,H2,I2,r2,q2⟩=>
  thn (ho pins s2 σ H2 x y v u _ I2 r1 r2 q2) fun c s3 ⟨z,H3,I3,r3,k,e,q3⟩=>?_) hm
 subst e
 cases r3
 exact wpAny_truthy_bool ⟨H3,I3,q3⟩
def Yt (r r':R2) (ta tb tc:TE):TE:=fun σ H Q=>ta σ H fun x H1=>tb σ H1 fun y H2=>r x y H2 fun z H3=>∃ k,z=.bl k /\
 (if k=true then tc σ H3 fun w' H4=>r' y w' H4 Q else Q (.bl false) H3)
theorem Go (ho:OpR X (compareOp op) r) (ho':OpR X (compareOp op') r') (ha:PE X a ta) (hb:PE X b tb) (hc:PE X c tc)
  (hm:lastMarks [op,op'] [b,c]=false:=by with_unfolding_all rfl):PE X (.Compare a [op,op'] [b,c] pos) (Yt r r' ta tb tc):=by
 refine ⟨?_⟩
 intro pins s σ H Q I h
 refine Compare_chain (thn (ha pins s σ H _ I h) fun v s1 ⟨x,H1,I1,r1,q1⟩=>chain_link (thn (hb pins s1 σ H1 _ I1 q1) fun u s2 ⟨y,H2,I2,r2,q2⟩=>
  thn (ho pins s2 σ H2 x y v u _ I2 r1 r2 q2) fun d s3 ⟨z,H3,I3,r3,k,e,q3⟩=>?_)) hm
 subst e
 cases r3
 refine wpAny_truthy_bool ?_
 cases k with
 | false=>exact ite_ff ⟨.bl false,H3,I3,rfl,q3⟩
 | true=>exact ite_tt (chain_last (thn (hc pins s3 σ H3 _ I3 q3) fun w' s4 ⟨z',H4,I4,r4,q4⟩=>ho' pins s4 σ H4 y z' u w' Q I4 r2 r4 q4))
theorem Gp (ho:OpR X (compareOp op) r) (ho':OpR X (compareOp op') r') (ha:PE X a ta) (hb:PE X b tb) (hc:PE X c tc)
  (hm:lastMarks [op,op'] [b,c]=false:=by with_unfolding_all rfl):PT X (.Compare a [op,op'] [b,c] pos) (qdQ (Yt r r' ta tb tc)):=by
 refine ⟨?_⟩
 intro pins s σ H Q I h
 refine isTrue_chain (thn (ha pins s σ H _ I h) fun v s1 ⟨x,H1,I1,r1,q1⟩=>test_link (thn (hb pins s1 σ H1 _ I1 q1) fun u s2 ⟨y,H2,I2,r2,q2⟩=>
  thn (ho pins s2 σ H2 x y v u _ I2 r1 r2 q2) fun d s3 ⟨z,H3,I3,r3,k,e,q3⟩=>?_)) hm
 subst e
 cases r3
 refine wpAny_truthy_bool ?_
 cases k with
 | false=>
  obtain ⟨k',e',q'⟩:=q3
  cases e'
  exact ite_ff ⟨H3,I3,q'⟩
 | true=>
  refine ite_tt (test_last (thn (hc pins s3 σ H3 _ I3 q3) fun w' s4 ⟨z',H4,I4,r4,q4⟩=>thn (ho' pins s4 σ H4 y z' u w' _ I4 r2 r4 q4) fun d' s5 ⟨z2,H5,I5,r5,k2,e2,q5⟩=>?_))
  subst e2
  cases r5
  exact wpAny_truthy_bool ⟨H5,I5,q5⟩
def qf2 (K:Frag) (x:V) (H:Hp) (k:Bool):Prop:=
 match x with
 | .non=>k=false
 | .bl b=>k=b
 | .int i=>k=(i != 0)
 | .str y=>y.length<=sizeLine/\k=((y.length:Int) != 0)
 | .byt y=>y.size<=sizeLine/\k=((y.size:Int) != 0)
 | .ref p=>(∃ xs,SqL K H p xs/\k=!xs.isEmpty)\/(∃ xs,SqT K H p xs/\k=!xs.isEmpty)\/∃ kvs,H p=some (.dK kvs)/\k=!kvs.isEmpty
 | _=>False
theorem Uo {κ:Type} {kvs:List (κ×V)} {vs:List (κ×Value)} (r:KV kvs vs):(!vs.isEmpty)=!kvs.isEmpty:=by
 cases r <;> rfl
theorem gK {its:List Value} (r:Vals xs its):(!its.toArray.isEmpty)=!xs.isEmpty:=by
 cases r <;> simp
theorem gL:(sizeLine:Nat) < 2 ^ 63:=by rw [sizeLine_eq]; decide
theorem qdR:qhx X (fun x H Q=>∃ k,qf2 X.K x H k/\Q k H):=by
 intro pins s σ H x v Q I rx h
 obtain ⟨k,e,q⟩:=h
 have hl:=gL
 have hs:sizeLine=16777216:=sizeLine_eq
 cases x with
 | non=>
  cases rx
  have e':k=false:=e
  subst e'
  exact truthy_none ⟨H,I,q⟩
 | bl b=>
  cases rx
  have e':k=b:=e
  subst e'
  exact wpAny_truthy_bool ⟨H,I,q⟩
 | int i=>
  obtain ⟨t,rfl⟩:=rx
  have e':k=(i != 0):=e
  subst e'
  exact PySem.P.truthy_int ⟨H,I,q⟩
 | str y=>
  obtain ⟨t,rfl⟩:=rx
  obtain ⟨hy,e'⟩:y.length<=sizeLine/\k=((y.length:Int) != 0):=e
  subst e'
  exact PySem.P.truthy_str (by omega) ⟨H,I.tok _,q⟩
 | byt y=>
  obtain ⟨t,rfl⟩:=rx
  obtain ⟨hy,e'⟩:y.size<=sizeLine/\k=((y.size:Int) != 0):=e
  subst e'
  exact PySem.W.truthy_bytes (by omega) ⟨H,I.tok _,q⟩
 | ref p=>
  cases rx
  have e':(∃ xs,SqL X.K H p xs/\k=!xs.isEmpty)\/(∃ xs,SqT X.K H p xs/\k=!xs.isEmpty)\/∃ kvs,H p=some (.dK kvs)/\k=!kvs.isEmpty:=e
  rcases e' with ⟨xs,hx,e'⟩ | ⟨xs,hx,e'⟩ | ⟨kvs,hx,e'⟩
  ·subst e'
   obtain ⟨its,r,pl,hz⟩:=I.list hx
   have hlen:=r.length
   exact wpAny_truthy_list pl.isList (by simp only [aw]; omega) ⟨H,I.tok _,by rw [gK r]; exact q⟩
  ·subst e'
   obtain ⟨its,r,pl,hz⟩:=I.tuple hx
   have hlen:=r.length
   exact truthy_tuple pl (by simp only [aw]; omega) ⟨H,I.tok _,by rw [gK r]; exact q⟩
  ·subst e'
   obtain ⟨hz,hS,vs,r,m⟩:kvs.length<=sizeLine/\(p == sysModules)=false/\∃ vs,KV kvs vs/\s.heap.DictOf (qQ X.prog X.w) p vs:=I.hok p _ hx
   have hlen:kvs.length=vs.length:=eM r
   exact wpAny_truthy_dict hS m (by omega) ⟨H,I.tok _,by rw [Uo r]; exact q⟩
 | _=>exact (show False from e).elim
theorem Gq (ha:PE X a ta) (he:∀ whole,isTrue a X.env whole=(do let v <-whole; standAt a.pos; holding [v] (truthy v))) :
  PT X a (fun σ H Q=>ta σ H fun x H'=>∃ k,qf2 X.K x H' k/\Q k H'):=by
 refine ⟨?_⟩
 intro pins s σ H Q I h
 exact isTrue_plain (thn (ha pins s σ H _ I h) fun v s1 ⟨x,H1,I1,r1,q1⟩=>qdR pins s1 σ H1 x v Q I1 r1 q1) (he _)
theorem Up:OpR X (binaryOp .Add) (fun x y H Q=>∃ i j,x=.str i/\y=.str j/\i.length+j.length<=sizeLine/\Q (.str (i++j)) H):=by
 intro pins s σ H x y v u Q I rx ry h
 obtain ⟨i,j,rfl,rfl,hz,q⟩:=h
 obtain ⟨t,rfl⟩:=rx
 obtain ⟨t',rfl⟩:=ry
 exact add_str (fun t' tk=>⟨.str (i++j),H,I.tok _,⟨_,rfl⟩,q⟩) hz
theorem uB {x:V} (r:Vals [x] us):∃ u,us=[u]/\RelV x u:=by
 cases r with
 | cons r1 r2=>cases r2; exact ⟨_,rfl,r1⟩
theorem Gr {x y:V} (r:Vals [x,y] us):∃ u w',us=[u,w']/\RelV x u/\RelV y w':=by
 cases r with
 | cons r1 r2=>
  cases r2 with
  | cons r3 r4=>cases r4; exact ⟨_,_,rfl,r1,r3⟩
theorem Yu (hc:X.calm=true):wH X (.builtin "max") (fun xs H Q=>∃ i j,xs=[.int i,.int j]/\Q (.int (if j > i then j else i)) H):=by
 intro pins s σ H xs us Q I r h
 obtain ⟨i,j,rfl,q⟩:=h
 obtain ⟨u,w',rfl,⟨t,rfl⟩,⟨t',rfl⟩⟩:=Gr r
 refine max_two_ints (I.ok.hd hc) fun h' tk k=>⟨_,H,I.kept k,?_,q⟩
 by_cases hj:j > i
 ·rw [if_pos hj,if_pos hj]; exact ⟨_,rfl⟩
 ·rw [if_neg hj,if_neg hj]; exact ⟨_,rfl⟩
theorem Yv (hc:X.calm=true):wH X (.builtin "min") (fun xs H Q=>∃ i j,xs=[.int i,.int j]/\Q (.int (if j < i then j else i)) H):=by
 intro pins s σ H xs us Q I r h
 obtain ⟨i,j,rfl,q⟩:=h
 obtain ⟨u,w',rfl,⟨t,rfl⟩,⟨t',rfl⟩⟩:=Gr r
 refine min_two_ints (I.ok.hd hc) fun h' tk k=>⟨_,H,I.kept k,?_,q⟩
 by_cases hj:j < i
 ·rw [if_pos hj,if_pos hj]; exact ⟨_,rfl⟩
 ·rw [if_neg hj,if_neg hj]; exact ⟨_,rfl⟩
def qhy (K:Frag) (x:V) (H:Hp) (n:Nat):Prop:=
 match x with
 | .str y=>y.length<=sizeLine/\n=y.length
 | .byt y=>y.size<=sizeLine/\n=y.size
 | .ref p=>(∃ xs,SqL K H p xs/\n=xs.length)\/∃ xs,SqT K H p xs/\n=xs.length
 | _=>False
theorem Qg:wH X (.builtin "len") (fun xs H Q=>∃ x n,xs=[x]/\qhy X.K x H n/\Q (.int n) H):=by
 intro pins s σ H xs us Q I r h
 obtain ⟨x,n,rfl,e,q⟩:=h
 obtain ⟨u,rfl,rx⟩:=uB r
 have hl:=gL
 have hs:sizeLine=16777216:=sizeLine_eq
 cases x with
 | str y=>
  obtain ⟨t,rfl⟩:=rx
  obtain ⟨hy,e'⟩:y.length<=sizeLine/\n=y.length:=e
  subst e'
  exact len_str (by omega) ⟨.int _,H,I.tok _,⟨_,rfl⟩,q⟩
 | byt y=>
  obtain ⟨t,rfl⟩:=rx
  obtain ⟨hy,e'⟩:y.size<=sizeLine/\n=y.size:=e
  subst e'
  exact PySem.W.len_bytes (by omega) ⟨.int _,H,I.tok _,⟨_,rfl⟩,q⟩
 | ref p=>
  cases rx
  have e':(∃ xs,SqL X.K H p xs/\n=xs.length)\/∃ xs,SqT X.K H p xs/\n=xs.length:=e
  rcases e' with ⟨xs,hx,e'⟩ | ⟨xs,hx,e'⟩
  ·subst e'
   obtain ⟨its,r',pl,hz⟩:=I.list hx
   have hlen:=r'.length
   exact Calls.call_len_list pl.isList (by simp only [aw]; omega) ⟨.int xs.length,H,I.tok _,⟨_,by simp only [aw]; rw [hlen]⟩,q⟩
  ·subst e'
   obtain ⟨its,r',pl,hz⟩:=I.tuple hx
   have hlen:=r'.length
   exact len_tuple pl (by simp only [aw]; omega) ⟨.int xs.length,H,I.tok _,⟨_,by simp only [aw]; rw [hlen]⟩,q⟩
 | _=>exact (show False from e).elim
end
structure ObjM (h:Heap) (x dx C:Addr) (mA:Str->Option Value):Prop where
 obj:h.get? x=some (cF C dx)
 ns:h.Ns1 dx mA
 ne:dx≠x
variable {dx:Addr} {mA:Str->Option Value}
theorem Yw (n:h.Ns1 dx mA):∃ od,h.get? dx=some od/\∀ name,fk name od=some (mA name):=by
 obtain ⟨o,es,ep,ho,hd,hk,_,hm⟩:=n
 refine ⟨o,ho,fun name=>?_⟩
 have e:=hm name
 unfold nsFind findBy at e
 rw [<-Array.find?_toList] at e
 unfold fk
 rw [hd]
 dsimp only
 split
 ·rename_i y q
  rw [q] at e
  exact congrArg some e
 ·rename_i q
  rw [q] at e
  have a:es.toList.any (·.refKey)=false:=by
   rw [List.any_eq_false]
   intro y hy
   obtain ⟨z,t,hkey⟩:=hk y (Array.mem_toList_iff.mp hy)
   simp [DictEntry.refKey,hkey]
  have a':¬es.toList.any (·.refKey)=true:=by rw [a]; exact br
  rw [if_neg a']
  exact congrArg some e
variable {C:Addr}
theorem ObjM.look {x:Addr} (I:ObjM h x dx C mA):∃ od,PySem.W.InstAt h x (cF C dx) C (some od)/\∀ name,fk name od=some (mA name):=
 let ⟨od,ho,hl⟩:=Yw I.ns
 ⟨od,⟨I.obj,rfl,rfl,ho⟩,hl⟩
theorem RelO.some_of {o:Option Value} (r:RelO (some v) o):∃ u,o=some u/\RelV v u:=by
 cases o with
 | none=>exact (show False from r).elim
 | some u=>exact ⟨u,rfl,r⟩
section
variable {fs:List (Str×V)} {f:Str}
theorem Inv.made (I:Inv X pins σ H s):Inv X pins σ (upd (upd H s.heap.objs.size (.own (s.heap.objs.size+1))) (s.heap.objs.size+1) (.ins C s.heap.objs.size []))
  { s with heap:=(s.heap.push bS).push (cF C s.heap.objs.size) }:=by
 have e1:(s.heap.push bS).get? s.heap.objs.size=some bS:=ak s.heap rfl
 have e2:((s.heap.push bS).push (cF C s.heap.objs.size)).get? (s.heap.objs.size+1)=some (cF C s.heap.objs.size):=by
  have:=ak (s.heap.push bS) (o:=cF C s.heap.objs.size) rfl
  rwa [cA] at this
 have e3:(s.heap.push bS).Ns s.heap.objs.size (fun _=>none):=⟨bS,#[],_,e1,rfl,(fun e he=>absurd he (by simp)),fun _=>rfl⟩
 have I1:=I.laid (a:=s.heap.objs.size) (o:=.own (s.heap.objs.size+1)) (h':=s.heap.push bS) (t':=s.toks) (fun b u q=>ae _ q) (aB _) ⟨_,e1⟩
 refine I1.laid (a:=s.heap.objs.size+1) (o:=.ins C s.heap.objs.size []) (t':=s.toks) (fun b u q=>ae _ q) (dR (cA _ _)) ?_
 have ne:s.heap.objs.size≠s.heap.objs.size+1:=aD (Nat.lt_succ_self _)
 refine ⟨by rw [qB ne,qr],bq _,ne,e2,fun _=>none,(Heap.Ns1.of_empty e3).at fun o q=>ae _ q,fun _=>dh,fun y hy=>absurd rfl hy⟩
end
structure Room (k:Nat) (A:Around):Prop where
 hd:A.handled=none
 dp:A.depth+3 * k+5 < recursionLimit
 un:A.units+16 * k+200 < cLine
theorem Room.mono {j k:Nat} (r:Room k A) (h:j<=k):Room j A:=⟨r.hd,by have:=r.dp; omega,by have:=r.un; omega⟩
theorem Room.deeper {k:Nat} (r:Room (k+1) A) (env:Env):Room k (A.deeper env):=
 ⟨r.hd,by have:=r.dp; show A.depth+1+3 * k+5 < _; omega,by have:=r.un; show A.units+3+16 * k+200 < _; omega⟩
theorem Room.in1 {k:Nat} (r:Room (k+1) A):Room k A.in1:=
 ⟨r.hd,by have:=r.dp; show A.depth+3 * k+5 < _; omega,by have:=r.un; show A.units+1+16 * k+200 < _; omega⟩
theorem Room.depth {k:Nat} (r:Room k A):A.depth < recursionLimit:=by have:=r.dp; omega
theorem Room.units {k:Nat} (r:Room k A):A.units+64 < cLine:=by have:=r.un; omega
def qfv:TA:=fun _ H Q=>Q [] H
def Uq (ta:TE) (tr:TA):TA:=fun σ H Q=>ta σ H fun x H1=>tr σ H1 fun xs H2=>Q (x::xs) H2
section
variable {t:TA}
theorem jz:PA X [] qfv:=⟨fun _ _ _ _ H Q I h=>eB ⟨[],H,I,.nil,h⟩⟩
theorem qS (ha:PE X e te) (hr:PA X es t) (hs:starEach (e::es) X.env=(false,eval e X.env)::starEach es X.env:=by rfl):PA X (e::es) (Uq te t):=by
 refine ⟨?_⟩
 intro pos pins s σ H Q I h
 rw [hs]
 show wpAny _ _ (spliced ((false,eval e X.env)::backTo pos (starEach es X.env))) _ _ s
 refine dG (thn (ha pins s σ H _ I h) fun u s1 ⟨x,H1,I1,r1,q1⟩=>?_)
 exact thn (hr pos pins s1 σ H1 _ I1 q1) fun us s2 ⟨xs,H2,I2,r2,q2⟩=>⟨x::xs,H2,I2,.cons r1 r2,q2⟩
def qhz (t:TA):TE:=fun σ H Q=>t σ H fun xs H1=>xs.length<=sizeLine/\∀ p,H1 p=none->Q (.ref p) (upd H1 p (.tup xs))
def qhA (t:TA):TE:=fun σ H Q=>t σ H fun xs H1=>xs.length<=sizeLine/\∀ p,H1 p=none->Q (.ref p) (upd H1 p (.lst xs))
theorem qdS {x1} (h:PA X es t):PE X (.Tuple es x1 pos) (qhz t):=by
 refine ⟨?_⟩
 intro pins s σ H Q I hq
 refine wpAny_Tuple_spliced (thn (h pos pins s σ H _ I hq) fun us s1 ⟨xs,H1,I1,r,z,q⟩=>⟨by rw [<-r.length]; exact z,?_⟩)
 have hf:H1 s1.heap.objs.size=none:=I1.hok.fresh (aB _)
 refine ⟨.ref s1.heap.objs.size,upd H1 s1.heap.objs.size (.tup xs),I1.laid (t':=s1.toks) (fun b u e=>ae _ e) (aB _) ?_,rfl,q _ hf⟩
 exact ⟨⟨z,_,ak _ rfl,rfl⟩,us,r,⟨_,ak _ rfl,rfl,_,rfl⟩⟩
theorem qdT (h:PA X es t):PE X (.List es pos) (qhA t):=by
 refine ⟨?_⟩
 intro pins s σ H Q I hq
 refine wpAny_List_spliced (thn (h pos pins s σ H _ I hq) fun us s1 ⟨xs,H1,I1,r,z,q⟩=>⟨by rw [<-r.length]; exact z,?_⟩)
 have hf:H1 s1.heap.objs.size=none:=I1.hok.fresh (aB _)
 refine ⟨.ref s1.heap.objs.size,upd H1 s1.heap.objs.size (.lst xs),I1.laid (t':=s1.toks) (fun b u e=>ae _ e) (aB _) ?_,rfl,q _ hf⟩
 exact ⟨z,us,0,r,ak _ rfl⟩
end
abbrev Sp:=List V->Hp->VK->XK->Prop
abbrev CXT:=List Env->Hp->Shared->XK->Value->Shared->Prop
structure Env0 (P:Program) (w:World) (K:Frag) (mg:Str->Option Value) (base:Heap) (A:Around) (outer:List Env) (s:Shared) (H:Hp):Prop where
 frames:A.frames=some outer
 mod:Mod K mg base
 bs:∀ b o,base.get? b=some o->s.heap.get? b=some o/\H b=none
 bsz:base.objs.size<=s.heap.objs.size
 funs:s.heap.FunFrames base outer
 frf:∀ b∈frs outer,H b=none
 hok:HOk P w H s.heap
 bare:AllBare s.gens
def CE (outer:List Env) (P:Program) (w:World) (H:Hp) (s:Shared) (Q:VK) (u:Value) (s':Shared):Prop:=
 ∃ v H',s'.os=s.os/\AllBare s'.gens/\Un (frs outer) [] H H' s.heap s'.heap/\HOk P w H' s'.heap/\RelV v u/\Q v H'
def CR (CX:CXT) (outer:List Env) (P:Program) (w:World) (H:Hp) (s:Shared) (Q:VK) (E:XK) (r:Result) (s':Shared):Prop:=
 match r with
 | .ok (.ret u)=>CE outer P w H s Q u s'
 | .ok _=>False
 | .error e=>CX outer H s E e s'
structure FnOk (P:Program) (w:World) (K:Frag) (mg:Str->Option Value) (base:Heap) (CX:CXT) (k:Nat) (f:Addr) (fd:FuncData) (ps:List Str) (sp:Sp):Prop where
 len:∀ vs H Q E,sp vs H Q E->vs.length=ps.length
 run:∀ (A:Around) (outer:List Env) (s:Shared) (H:Hp) (args:Args) (us:List Value) (vs:List V) (Q:VK) (E:XK),Room k A->Env0 P w K mg base A outer s H->BindsTo s fd args (ps.zip us)->Vals vs us->sp vs H Q E ->
  codeAny (model P w) A (.call (.ref f) args) (CR CX outer P w H s Q E) s
variable {f:Addr} {mg:Str->Option Value} {base:Heap} {CX:CXT} {fd:FuncData} {ps:List Str} {sp:Sp}
theorem FnOk.imp {k:Nat} {sp':Sp} (F:FnOk P w K mg base CX k f fd ps sp)
  (h:∀ vs H Q E,sp' vs H Q E->sp vs H Q E):FnOk P w K mg base CX k f fd ps sp':=
 ⟨fun vs H Q E q=>F.len vs H Q E (h _ _ _ _ q),fun A outer s H args us vs Q E hr he hb hv hs=>F.run A outer s H args us vs Q E hr he hb hv (h _ _ _ _ hs)⟩
theorem Env0.in1 {outer:List Env} (e:Env0 P w K mg base A outer s H) :
  Env0 P w K mg base A.in1 outer s H:=⟨e.frames,e.mod,e.bs,e.bsz,e.funs,e.frf,e.hok,e.bare⟩
section
theorem Inv.env0 (I:Inv X pins σ H s):Env0 X.prog X.w X.K X.mg X.base X.A X.stack s H:=
 ⟨I.ok.frames,I.ok.mod,I.bs,be I.ok.bsz I.sz,I.stack,I.stkFree,I.hok,I.bare⟩
theorem Inv.after {Q:VK} (I:Inv X pins σ H s) (h:CE X.stack X.prog X.w H s Q u s'):EP X pins σ Q u s':=by
 obtain ⟨v,H',os,bare,un,hok,r,q⟩:=h
 obtain ⟨hh,g,d,t,os'⟩:=s'
 obtain rfl:os'=s.os:=os
 exact ⟨v,H',I.call (h':=hh) (g':=g) (d':=d) (t':=t) (ch:=[]) un hok bare (fun b z=>absurd z (by simp)),r,q⟩
end
def qf3 (sp:Sp) (dvs:List V) (E:XK) (t:TA):TE:=fun σ H Q=>t σ H fun vs H1=>sp (vs++dvs) H1 Q E
def Binds (K:Frag) (fd:FuncData) (ps:List Str) (ds:List Value):Prop:=
 ∀ (s:Shared) (us:List Value),K.In s.heap->(us++ds).length=ps.length->BindsTo s fd ⟨us,[]⟩ (ps.zip (us++ds))
theorem Binds.all (h:∀ us:List Value,us.length=ps.length->bindArgs fd ⟨us,[]⟩=pure (ps.zip us)):Binds K fd ps []:=fun s us _ hl=>by
 rw [aY] at hl ⊢
 exact .of_eq (h us hl)
def wI (CX:CXT) (X:Cx) (E:XK):Prop:=∀ (pins:List (Addr×Obj)) (σ:St) (H:Hp) (s:Shared) (e:Value) (s':Shared),Inv X pins σ H s->CX X.stack H s E e s'->X.xe e s'
variable {apos:Pos}
section
variable {k:Nat} {dvs:List V} {ds:List Value} {E:XK} {m:Str} {o:Expr} {t:TA}
theorem qdU {pins:List (Addr×Obj)} {σ:St} {H:Hp} {s:Shared} {Q:VK} {us:List Value} {vs:List V} (F:FnOk X.prog X.w X.K X.mg X.base CX k f fd ps sp) (hr:Room k X.A) (hb:Binds X.K fd ps ds) (hd:Vals dvs ds) (hx:wI CX X E)
  (I:Inv X pins σ H s) (r:Vals vs us) (h:sp (vs++dvs) H Q E):wpAny (model X.prog X.w) X.A (call (.ref f) us) (EP X pins σ Q) X.xe s:=by
 have r2:Vals (vs++dvs) (us++ds):=r.append hd
 have hl:(us++ds).length=ps.length:=by rw [<-r2.length]; exact F.len _ _ _ _ h
 refine wpAny_call (codeAny_mono (F.run X.A X.stack s H ⟨us,[]⟩ (us++ds) (vs++dvs) Q E hr I.env0 (hb s us I.kIn hl) r2 h) fun r s' hq=>?_)
 cases r with
 | error e=>exact hx pins σ H s e s' I hq
 | ok fl=>
  cases fl with
  | ret u=>exact I.after hq
  | next=>exact cc hq
  | brk=>exact cc hq
  | cont=>exact cc hq
theorem qbX (F:FnOk X.prog X.w X.K X.mg X.base CX k f fd ps sp) (hr:Room k X.A) (hg:Gl X x) (hm:X.mg x=some (.ref f)) (hk:keepIn X.K (.ref f)=true) (hb:Binds X.K fd ps ds) (hd:Vals dvs ds) (hx:wI CX X E)
  (ha:PA X (e::es) t) (hdb:(x == ("__debug__":Str))=false:=by decide) (he:starEach (e::es) X.env=(false,eval e X.env)::starEach es X.env:=by rfl) (hpl:(backTo pos (starEach es X.env)).any (·.1)=false:=by rfl) :
  PE X (.Call (.Name x p) (e::es) [] pos) (qf3 sp dvs E t):=by
 refine ⟨?_⟩
 intro pins s σ H Q I h
 refine wpAny_Call_Name_kw (zp I hg hm ?_ hdb)
 refine PySem.W.callWith_K (h₀:=X.base) I.ok.mod.kin hk (thn (ha pos pins s σ H _ I h) fun us s1 ⟨vs,H1,I1,r,q⟩=>⟨I1.kIn,?_⟩) he hpl
 exact qdU F hr hb hd hx I1 r q
end
section
variable {k:Nat} {ks:List Str} {E:XK} {m:Str} {kpos:Pos} {o:Expr} {kws:List Keyword} {t tk:TA} {nm:Option Str}
variable {g:List Value->List Value->List Value} {gV:List V->List V->List V}
end
structure FnScope (N P:List Str) (sc:Scope):Prop where
 kind:sc.kind=.function
 co:sc.isCoroutine=false
 gen:sc.isGenerator=false
 nd:N.Nodup
 pre:N.take P.length=P
 par:∀ x∈P,sc.names.lookup x=some .local\/sc.names.lookup x=some .cell
 nofree:∀ y∈sc.names,y.2≠.free
variable {kindOf:Str->Option NameKind}
theorem JE:∀ {binds:List (Str×Value)} {m:Str->Option Value},(∀ v,(x,v)∉binds)->bindL kindOf binds m x=m x
 | [],_,_=>rfl
 | (n,v)::r,m,h=>by
  unfold bindL
  rw [JE fun w hw=>h w (aa _ hw)]
  split
  ·have:x≠n:=by rintro rfl; exact h v ai
   simp [this]
  ·rfl
theorem JF:∀ {binds:List (Str×Value)} {m:Str->Option Value},(∀ v,(x,v)∉binds)->bindC kindOf binds m x=m x
 | [],_,_=>rfl
 | (n,v)::r,m,h=>by
  unfold bindC
  rw [JF fun w hw=>h w (aa _ hw)]
  split
  ·rfl
  ·have:x≠n:=by rintro rfl; exact h v ai
   simp [this]
theorem zq {kindOf:Str->Option NameKind} {x:Str} {v:Value}:∀ {P:List Str} {vs:List Value} {i:Nat} {m:Str->Option Value},P.Nodup->P[i]?=some x->vs[i]?=some v->kindOf x=some .local ->
  bindL kindOf (P.zip vs) m x=some v
 | [],_,_,_,_,h,_,_=>by simp at h
 | _::_,[],_,_,_,_,h,_=>by simp at h
 | p::P,w::vs,0,m,nd,h1,h2,hk=>by
  simp at h1 h2; subst h1; subst h2
  show bindL kindOf ((p,w)::P.zip vs) m p=_
  unfold bindL
  rw [JE fun v hv=>(aI.mp nd).1 (d9 hv).1,if_pos hk]
  simp
 | p::P,w::vs,i+1,m,nd,h1,h2,hk=>by
  show bindL kindOf ((p,w)::P.zip vs) m x=_
  unfold bindL
  exact zq (i:=i) (aI.mp nd).2 (by simpa using h1) (by simpa using h2) hk
theorem zr {kindOf:Str->Option NameKind} {x:Str} {v:Value}:∀ {P:List Str} {vs:List Value} {i:Nat} {m:Str->Option Value},P.Nodup->P[i]?=some x->vs[i]?=some v->kindOf x≠some .local ->
  bindC kindOf (P.zip vs) m x=some v
 | [],_,_,_,_,h,_,_=>by simp at h
 | _::_,[],_,_,_,_,h,_=>by simp at h
 | p::P,w::vs,0,m,nd,h1,h2,hk=>by
  simp at h1 h2; subst h1; subst h2
  show bindC kindOf ((p,w)::P.zip vs) m p=_
  unfold bindC
  rw [JF fun v hv=>(aI.mp nd).1 (d9 hv).1,if_neg hk]
  simp
 | p::P,w::vs,i+1,m,nd,h1,h2,hk=>by
  show bindC kindOf ((p,w)::P.zip vs) m x=_
  unfold bindC
  exact zr (i:=i) (aI.mp nd).2 (by simpa using h1) (by simpa using h2) hk
noncomputable def vC (N:List Str) (vs:List V):St:=vs.map some++bu (N.length - vs.length) none
def qbY (CX:CXT) (P:Program) (w:World) (K:Frag) (mg:Str->Option Value) (base:Heap) (N:List Str) (qual:Str) (scope:Scope) (f:Addr) (cd:Value) (A:Around) (outer:List Env) (s:Shared) (H:Hp) (E:XK):Cx where
 prog:=P
 w:=w
 K:=K
 mg:=mg
 base:=base
 A:=A.deeper (envOfC qual scope s.heap.objs.size f cd)
 N:=N
 s₀:=s
 H₀:=H
 env:=envOfC qual scope s.heap.objs.size f cd
 outer:=outer
 stack:=envOfC qual scope s.heap.objs.size f cd::outer
 ex:=[]
 calm:=true
 fn:=fun _=>true
 pn:=[]
 xe:=fun e s'=>wpAny (model P w) (A.deeper (envOfC qual scope s.heap.objs.size f cd)) (leaving (envOfC qual scope s.heap.objs.size f cd) e) (fun _ s''=>CX outer H s E e s'') (fun e' s''=>CX outer H s E e' s'') s'
theorem xS {sc:Scope} {n:Nat} (h:sc.names.lookup x=some .cell):∃ c,(cellsFrom n sc.names []).lookup x=some c:=by
 have q:=dS sc.names n [] (.inl h)
 exact Option.isSome_iff_exists.mp q
theorem Yx {CX:CXT} {P:Program} {w:World} {K:Frag} {mg:Str->Option Value} {base:Heap} {N ps:List Str} {qual:Str} {scope:Scope} {f:Addr} {cd:Value} {A:Around} {outer:List Env} {s s1:Shared} {H:Hp} {E:XK} {us:List Value} {vs:List V}
  (S:FnScope N ps scope) (hd:A.handled=none) (e0:Env0 P w K mg base A outer s H) (hl:vs.length=ps.length) (r:Vals vs us)
  (x:InCallC s s.heap.objs.size (bindL (envOfC qual scope s.heap.objs.size f cd).kindOf (ps.zip us) fun _=>none) (cellsFrom (s.heap.objs.size+1) scope.names []) (bindC (envOfC qual scope s.heap.objs.size f cd).kindOf (ps.zip us) fun _=>none) s1) :
  Inv (qbY CX P w K mg base N qual scope f cd A outer s H E) [] (vC N vs) H s1:=by
 have hpl:ps.length<=N.length:=by have:=congrArg fm S.pre; rw [eR] at this; omega
 obtain ⟨h1,tk,rfl,hk⟩:=x.done
 have noA:∀ b:Addr,b∉(qbY CX P w K mg base N qual scope f cd A outer s H E).ex:=fun b z=>absurd (show b∈([]:List Addr) from z) (by simp)
 refine ⟨⟨e0.mod,S.kind,rfl,rfl,aB _,fun y z c h1 h2=>?_,fun y hy=>?_,fun y c _ h=>?_,fun _=>hd,Around.frames_deeper e0.frames,.inr ⟨rfl,rfl⟩,fun b z=>absurd z (noA b),e0.bs,e0.bsz,fun b _ _=>noA b,fun b z=>absurd z (noA b),e0.funs,e0.frf⟩,
  rfl,e0.bare,Un.kept hk,⟨_,x.toInCall.ns,fun i y v h1 h2 h3=>?_⟩,fun y c h=>⟨_,x.cell y c h⟩,e0.hok.fresh (aB _),fun y c h=>?_,fun p hp=>absurd (show p∈([]:List (Addr×Obj)) from hp) (by simp),e0.hok.kept hk,?_⟩
 ·exact name_of_addr x.apart (bn h1) (bn h2)
 ·have hy:scope.names.lookup y=some .cell\/scope.names.lookup y=some .free:=hy
  rcases hy with hy | hy
  ·exact xS hy
  ·exact absurd rfl (S.nofree _ (bn hy))
 ·exact cU (x.above y c (bn h))
 ·have hi:i < vs.length:=by
   unfold vC at h2
   by_cases hi:i < vs.length
   ·exact hi
   ·rw [bA (by simpa using hi)] at h2
    rw [bQ] at h2
    split at h2 <;> cases h2
  have ha:vs[i]?=some v:=by
   unfold vC at h2
   rw [bY (by simpa using hi),aF] at h2
   cases e:vs[i]? with
   | none=>rw [e] at h2; cases h2
   | some a=>rw [e] at h2; cases h2; rfl
  obtain ⟨u,hu,rv⟩:=r.get ha
  have hp:ps[i]?=some y:=by
   rw [<-S.pre,List.getElem?_take_of_lt (by omega)]; exact h1
  have ndP:ps.Nodup:=by rw [<-S.pre]; exact S.nd.sublist (List.take_sublist _ _)
  refine ⟨u,rv,?_⟩
  rcases S.par y (aP hp) with k | k
  ·exact .inl ⟨k,zq ndP hp hu k⟩
  ·obtain ⟨c,e⟩:=xS (n:=s.heap.objs.size+1) k
   refine .inr ⟨.inl k,c,e,?_⟩
   have q:=x.cell y c e
   rw [zr ndP hp hu (by show scope.names.lookup y≠_; rw [k]; decide)] at q
   exact q
 ·exact e0.hok.fresh (cU (x.above y c (bn h)))
 ·unfold vC
  show _=N.length
  rw [af,ay,c7]
  omega
theorem qf4 {CX:CXT} {P:Program} {w:World} {K:Frag} {mg:Str->Option Value} {base:Heap} {k:Nat} {f:Addr} {name qual:Str} {params:Arguments} {body:List Stmt} {scope:Scope} {dV kV doc pm cdv ct oc:Value} {an od:Option Addr}
  {osl:Array (Option Value)} {N ps:List Str} {sp:Sp} (lk:K.lookup f=some ⟨oc,od,.func (cg name qual params body scope dV kV doc pm an cdv ct),osl⟩) (hcd:codeIn K cdv qual=true) (S:FnScope N ps scope)
  (len:∀ vs H Q E,sp vs H Q E->vs.length=ps.length)
  (hbody:∀ (A:Around) (outer:List Env) (s:Shared) (H:Hp) (vs:List V) (Q:VK) (E:XK),Room k (A.deeper (envOfC qual scope s.heap.objs.size f cdv))->sp vs H Q E ->
   ∃ t,PSs (qbY CX P w K mg base N qual scope f cdv A outer s H E) body t/\t { nx:=fun _ H'=>Q .non H',rt:=Q } (vC N vs) H) :
  FnOk P w K mg base CX (k+1) f (cg name qual params body scope dV kV doc pm an cdv ct) ps sp:=by
 refine ⟨len,fun A outer s H args us vs Q E hr e0 hb r hsp=>?_⟩
 have hl:=len _ _ _ _ hsp
 have KX:K.In s.heap:=e0.mod.kin.keeps fun b o e=>(e0.bs b o e).1
 have lim:s.heap.NoLimit:=e0.mod.nolimit.keeps fun b o e=>(e0.bs b o e).1
 have hkind:∀ y∈ps.zip us,scope.names.lookup y.1=some .local\/(scope.names.lookup y.1=some .cell/\((cellsFrom (s.heap.objs.size+1) scope.names []).lookup y.1).isSome=true):=fun ⟨n,v⟩ hy=>by
  rcases S.par n (d9 hy).1 with q | q
  ·exact .inl q
  ·exact .inr ⟨q,dS _ _ _ (.inl q)⟩
 refine codeAny_call_function hr.depth (KX _ _ lk) rfl S.co S.gen rfl (PySem.W.codeRec_of KX hcd) (hb _ _ _ _ ?_)
 refine wpAny_newFunctionEnv_cells S.kind hkind fun env he s1 x=>?_
 subst he
 refine ⟨lim.keeps x.toInCall.keep,codeAny_func ?_⟩
 obtain ⟨t,ht,hq⟩:=hbody A outer s H vs Q E (hr.deeper _) hsp
 have I:Inv (qbY CX P w K mg base N qual scope f cdv A outer s H E) [] (vC N vs) H s1:=Yx S hr.hd e0 hl r x
 refine wpAny_mono (ht [] s1 (vC N vs) H _ I hq) (fun fl s' hs=>?_) fun e s' hs=>hs
 have fin:∀ {σ':St} {H':Hp} {v:V} {u:Value},Inv (qbY CX P w K mg base N qual scope f cdv A outer s H E) [] σ' H' s'->RelV v u->Q v H'->CE outer P w H s Q u s':=
  fun {σ' H' v u} J rv q=>⟨v,H',J.os,J.bare,J.base,J.hok,rv,q⟩
 cases fl with
 | ret u=>
  obtain ⟨v,σ',H',J,rv,q⟩:=hs
  exact fin J rv q
 | next=>
  obtain ⟨σ',H',J,q⟩:=hs
  exact fin (v:=V.non) (u:=cz) J rfl q
 | brk=>
  obtain ⟨_,_,_,q⟩:=hs
  exact cc q
 | cont=>
  obtain ⟨_,_,_,q⟩:=hs
  exact cc q
section
variable {t:TA} {id T:String} {r:List V->Hp->VK->Prop}
def tCB (r:List V->Hp->VK->Prop) (t:TA):TE:=fun σ H Q=>t σ H fun vs H1=>r vs H1 Q
theorem vS (hc:wH X (.builtin id) r) (hg:Gl X x) (hm:X.mg x=none) (hv:bootBuiltins x=some (.builtin id)) (ha:PA X (e::es) t) (hn:x ≠ "__name__":=by decide) (hdb:(x == ("__debug__":Str))=false:=by decide)
  (he:starEach (e::es) X.env=(false,eval e X.env)::starEach es X.env:=by rfl) (hpl:(backTo pos (starEach es X.env)).any (·.1)=false:=by rfl):PE X (.Call (.Name x p) (e::es) [] pos) (tCB r t):=by
 refine ⟨?_⟩
 intro pins s σ H Q I h
 refine wpAny_Call_Name_kw (xq I hg hm hv ?_ hn hdb)
 exact PyProof.Rows.callWith_builtin1 (thn (ha pos pins s σ H _ I h) fun us s1 ⟨vs,H1,I1,r1,q1⟩=>hc pins s1 σ H1 vs us Q I1 r1 q1) he hpl
theorem wJ (hc:wH X (.type T) r) (hg:Gl X x) (hm:X.mg x=none) (hv:bootBuiltins x=some (.type T)) (ha:PA X (e::es) t) (hn:x ≠ "__name__":=by decide) (hdb:(x == ("__debug__":Str))=false:=by decide)
  (he:starEach (e::es) X.env=(false,eval e X.env)::starEach es X.env:=by rfl) (hpl:(backTo pos (starEach es X.env)).any (·.1)=false:=by rfl):PE X (.Call (.Name x p) (e::es) [] pos) (tCB r t):=by
 refine ⟨?_⟩
 intro pins s σ H Q I h
 refine wpAny_Call_Name_kw (xq I hg hm hv ?_ hn hdb)
 exact bz (thn (ha pos pins s σ H _ I h) fun us s1 ⟨vs,H1,I1,r1,q1⟩=>hc pins s1 σ H1 vs us Q I1 r1 q1) he hpl
end
end L2
namespace HT
open PySem PyProof.Rows
section
open PySem.SeqAt
open PySem.AutoSeq1 (wpAny_loadPart')
open PySem.MeetsSeq PySem.MeetsSeq2 PySem.MeetsSeq3
end
section
variable {prog:Program} {w:World} {A:Around} {E:Value->Shared->Prop} {s:Shared}
theorem cat_tup {t b:Addr} {vs ws:List Value} {Q:Value->Shared->Prop} (ht:IsTup s.heap t vs.toArray) (hb:IsTup s.heap b ws.toArray) (hv:vs≠[])
  (h1:ws=[]->Q (.ref t) s) (h2:ws≠[]->Q (.ref s.heap.objs.size) { s with heap:=s.heap.push { cls:=.type "tuple",data:=.seq (vs++ws).toArray } })
  (hsz:vs.length+ws.length<=sizeLine):wpAny (model prog w) A (binaryOp .Add (.ref t) (.ref b)) Q E s:=by
 obtain ⟨⟨cls,dd,data,sl⟩,ho,hc,n,hd⟩:=id ht
 obtain ⟨⟨cls2,dd2,data2,sl2⟩,ho2,hc2,n2,hd2⟩:=id hb
 simp only at hc hd hc2 hd2
 subst hc hd hc2 hd2
 have e:vs.toArray++ws.toArray=(vs++ws).toArray:=by simp
 by_cases hw:ws=[]
 ·exact concat_meets ⟨_,ho,rfl⟩ ⟨_,ho2,rfl⟩ noFill_tuple_add seq_tuple_add dU dJ (dw _ _)
   (tuple_addW1 t b vs.toArray ws.toArray n n2 dd dd2 sl sl2 (by simpa using hv) (by simp [hw])) ⟨ho,ho2,h1 hw⟩
 ·refine concat_meets ⟨_,ho,rfl⟩ ⟨_,ho2,rfl⟩ noFill_tuple_add seq_tuple_add dU dJ (dw _ _)
   (tuple_addW2 t b vs.toArray ws.toArray n n2 dd dd2 sl sl2 (by simpa using hv) (by simpa using hw) (by rw [aw,aw]; exact hsz)) ⟨ho,ho2,?_⟩
  rw [e]
  exact h2 hw
end
end HT
namespace L2
open PySem PySem.Spec PyProof.Rows
abbrev TO:=St->Hp->(Option Int->Hp->Prop)->Prop
variable {X:Cx} {e:Expr} {pos:Pos} {xs:List V} {us:List Value}
section
variable {te:TE} {lo hi:Option Expr} {tl th:TO} {p2:Pos}
def qf5 (K:Frag):R2:=fun x y H Q=>∃ a b xs ys,x=.ref a/\y=.ref b/\SqT K H a xs/\SqT K H b ys/\xs≠[]/\xs.length+ys.length<=sizeLine /\
 (ys=[]->Q (.ref a) H)/\(ys≠[]->∀ p,H p=none->Q (.ref p) (upd H p (.tup (xs++ys))))
theorem Vals.nil_iff (r:Vals xs us):us=[]↔xs=[]:=by
 cases r with
 | nil=>simp
 | cons _ _=>simp
theorem qbZ:OpR X (binaryOp .Add) (qf5 X.K):=by
 intro pins s σ H x y v u Q I rx ry h
 obtain ⟨a,b,xs,ys,rfl,rfl,ha,hb,hx,hz,q1,q2⟩:=h
 cases rx
 cases ry
 obtain ⟨its,r1,p1,_⟩:=I.tuple ha
 obtain ⟨its2,r2,p2,_⟩:=I.tuple hb
 refine HT.cat_tup p1 p2 (fun z=>hx (r1.nil_iff.mp z)) (fun z=>⟨.ref a,H,I,rfl,q1 (r2.nil_iff.mp z)⟩) (fun z=>?_) (by rw [<-r1.length,<-r2.length]; exact hz)
 refine ⟨.ref s.heap.objs.size,_,I.laid (t':=s.toks) (o:=.tup (xs++ys)) (fun b ob q=>ae _ q) (aB _) ?_,rfl,q2 (fun w=>z (r2.nil_iff.mpr w)) _ (I.hok.fresh (aB _))⟩
 exact ⟨⟨by rw [af]; exact hz,_,ak _ rfl,rfl⟩,_,r1.append r2,IsTup.new _ _⟩
end
noncomputable def ixN (n:Nat) (i:Int):Option Nat:=if 0<=i then (if i < n then some i.toNat else none) else if -(n:Int)<=i then some (i+n).toNat else none
variable {α:Type}
noncomputable def atI (xs:List α) (i:Int):Option α:=(ixN xs.length i).bind fun j=>xs[j]?
variable {n j:Nat} {i:Int}
theorem Yy (h:ixN n i=some j):seqIndex? i n=some j/\j < n/\-(n:Int)<=i/\i < n:=by
 unfold ixN at h
 by_cases h0:0<=i
 ·rw [if_pos h0] at h
  by_cases h1:i < n
  ·rw [if_pos h1] at h
   have e:i.toNat=j:=bc.inj h
   exact ⟨by rw [seqIndex_of h0 h1,e],by omega,by omega,h1⟩
  ·rw [if_neg h1] at h; cases h
 ·rw [if_neg h0] at h
  by_cases h1:-(n:Int)<=i
  ·rw [if_pos h1] at h
   have e:(i+n).toNat=j:=bc.inj h
   exact ⟨by rw [seqIndex_neg (by omega) h1,e],by omega,h1,by omega⟩
  ·rw [if_neg h1] at h; cases h
theorem KW {xs:List α} {v:α} (h:atI xs i=some v):∃ j,seqIndex? i xs.length=some j/\xs[j]?=some v/\j < xs.length/\-(xs.length:Int)<=i/\i < xs.length:=by
 unfold atI at h
 cases e:ixN xs.length i with
 | none=>rw [e] at h; cases h
 | some j=>
  rw [e] at h
  obtain ⟨h1,h2,h3,h4⟩:=Yy e
  exact ⟨j,h1,h,h2,h3,h4⟩
theorem vD {xs:List α} {v:α} (h:xs[j]?=some v):atI xs (j:Int)=some v:=by
 have hj:j < xs.length:=(aA.mp h).1
 have e:ixN xs.length (j:Int)=some j:=by
  unfold ixN
  rw [if_pos (by omega),if_pos (by omega)]; simp
 unfold atI; rw [e]; exact h
def KY (b:Expr):Prop:=∀ o i,subscripted b false o i=operate [o,i] (getItem o i)
def IxR (X:Cx) (r:R2):Prop:=
 ∀ (value slice:Expr) (pins:List (Addr×Obj)) (s:Shared) (σ:St) (H:Hp) (x y:V) (v u:Value) (Q:VK),Inv X pins σ H s->RelV x v->RelV y u->r x y H Q ->
  subscripted slice false v u=operate [v,u] (getItem v u)->wpAny (model X.prog X.w) X.A (subscriptTail value slice v u) (EP X pins σ Q) X.xe s
def MtR (X:Cx) (id:String) (r:V->List V->Hp->VK->Prop):Prop:=
 ∀ (pins:List (Addr×Obj)) (s:Shared) (σ:St) (H:Hp) (x:V) (xs:List V) (v:Value) (us:List Value) (Q:VK),Inv X pins σ H s->RelV x v->Vals xs us->r x xs H Q ->
  wpAny (model X.prog X.w) X.A (call (.builtin id) (v::us)) (EP X pins σ Q) X.xe s
variable {pins:List (Addr×Obj)} {σ:St} {H:Hp} {s:Shared} {p:Addr} {T:String}
section
variable {a b:Expr} {ta tb:TE}
theorem IxR.or {r r':R2} (h:IxR X r) (h':IxR X r'):IxR X (fun x y H Q=>r x y H Q\/r' x y H Q):=by
 intro value slice pins s σ H x y v u Q I rx ry q hs
 rcases q with q | q
 ·exact h value slice pins s σ H x y v u Q I rx ry q hs
 ·exact h' value slice pins s σ H x y v u Q I rx ry q hs
theorem qdV {r:R2} (hr:IxR X r) (ha:PE X a ta) (hb:PE X b tb) (hs:KY b):PE X (.Subscript a b pos) (tOp r ta tb):=by
 refine ⟨?_⟩
 intro pins s σ H Q I h
 exact Subscript_ (qfV ha hb I h fun v u s2 x y H2 I2 rx ry q=>hr a b pins s2 σ H2 x y v u Q I2 rx ry q (hs _ _))
def qgX (K:Frag):R2:=fun x y H Q=>∃ p xs i v,x=.ref p/\y=.int i/\SqL K H p xs/\atI xs i=some v/\Q v H
def qgY (K:Frag):R2:=fun x y H Q=>∃ p xs i v,x=.ref p/\y=.int i/\SqT K H p xs/\atI xs i=some v/\Q v H
def qgZ:R2:=fun x y H Q=>∃ z i c,x=.str z/\y=.int i/\z.length<=sizeLine/\atI z.cps.toList i=some c/\Q (.str ⟨#[c]⟩) H
theorem ix_list:IxR X (qgX X.K):=by
 intro value slice pins s σ H x y v u Q I rx ry h hs
 obtain ⟨p,xs,i,z,rfl,rfl,hq,he,q⟩:=h
 cases rx
 obtain ⟨t,rfl⟩:=ry
 obtain ⟨its,r,pl,hz⟩:=I.list hq
 obtain ⟨j,h1,h2,h3,h4,h5⟩:=KW he
 obtain ⟨w,ew,rw'⟩:=r.get h2
 have hl:=r.length
 have hn:=gL
 have fin:EP X pins σ Q w s:=⟨z,H,I,rw',q⟩
 by_cases h0:0<=i
 ·have hj:i.toNat=j:=by
   rw [seqIndex_of h0 h5] at h1
   exact bc.inj h1
  exact item_listR pl.isList h0 (by omega) (by rw [hj]; simpa using ew) fin hs
 ·have hj:(i+(its.toArray.size:Int)).toNat=j:=by
   rw [seqIndex_neg (by omega) h4] at h1
   rw [aw,<-hl]
   exact bc.inj h1
  exact subscriptTail_builtinR (x:=w) pl.isList.typeIs slot_list_getitem.lookup
   (wpAny_getItem_list_neg (Q:=fun r s'=>r=w/\EP X pins σ Q r s') pl.isList (by omega) (by rw [aw] <;> omega) (by omega) (by rw [hj]; simpa using ew) ⟨rfl,fin⟩) hs
theorem ix_tup:IxR X (qgY X.K):=by
 intro value slice pins s σ H x y v u Q I rx ry h hs
 obtain ⟨p,xs,i,z,rfl,rfl,hq,he,q⟩:=h
 cases rx
 obtain ⟨t,rfl⟩:=ry
 obtain ⟨its,r,pl,hz⟩:=I.tuple hq
 obtain ⟨j,h1,h2,h3,h4,h5⟩:=KW he
 obtain ⟨w,ew,rw'⟩:=r.get h2
 have hl:=r.length
 have hn:=gL
 have fin:EP X pins σ Q w s:=⟨z,H,I,rw',q⟩
 exact subscriptTail_builtinR (x:=w) pl.typeIs slot_tuple_getitem.lookup
  (getItem_tuple (j:=j) (Q:=fun r s'=>r=w/\EP X pins σ Q r s') pl (by omega) (by omega) (by rw [aw,<-hl]; exact h1) (by simpa using ew) ⟨rfl,fin⟩) hs
theorem qdW:IxR X qgZ:=by
 intro value slice pins s σ H x y v u Q I rx ry h hs
 obtain ⟨z,i,c,rfl,rfl,hz,he,q⟩:=h
 obtain ⟨t,rfl⟩:=rx
 obtain ⟨t',rfl⟩:=ry
 obtain ⟨j,h1,h2,h3,h4,h5⟩:=KW he
 have hl:z.cps.toList.length=z.length:=by simp [fF]
 rw [hl] at h1 h4 h5
 have hn:=gL
 exact tail_any (typeIs_str s z t) slot_str_getitem.lookup (getItem_str (c:=c) (by
  have e1:decide (i < -(2 ^ 63:Int))=false:=decide_eq_false (by omega)
  have e2:decide (i ≥ 2 ^ 63)=false:=decide_eq_false (by omega)
  rw [e1,e2,Bool.or_false]) (by rw [h1]; simpa using h2) ⟨.str ⟨#[c]⟩,H,I.tok _,⟨_,rfl⟩,q⟩) hs
def rIx (K:Frag):R2:=fun x y H Q=>qgX K x y H Q\/qgY K x y H Q\/qgZ x y H Q
theorem qdX:IxR X (rIx X.K):=ix_list.or (ix_tup.or qdW)
theorem Ur (its:List Value) (n j:Nat) (u:Value):cJ (·.setIfInBounds j u) { cls:=.type "list",data:=.seq its.toArray n }={ cls:=.type "list",data:=.seq (its.set j u).toArray n }:=by
 simp [cJ]
theorem Inv.lst (I:Inv X pins σ H s) (h:H p=some (.lst xs)) :
  ∃ (its:List Value) (n:Nat),Vals xs its/\s.heap.get? p=some { cls:=.type "list",data:=.seq its.toArray n }/\xs.length<=sizeLine:=by
 obtain ⟨z,its,n,r,e⟩:=I.hok p _ h
 exact ⟨its,n,r,e,z⟩
theorem Inv.lstUpd {ys:List V} {its its':List Value} {n n':Nat} {f:Obj->Obj} (I:Inv X pins σ H s) (h:H p=some (.lst xs))
  (ho:s.heap.get? p=some { cls:=.type "list",data:=.seq its.toArray n }) (hf:f { cls:=.type "list",data:=.seq its.toArray n }={ cls:=.type "list",data:=.seq its'.toArray n' }) (r:Vals ys its') (hz:ys.length<=sizeLine) (t:Nat) :
  Inv X pins σ (upd H p (.lst ys)) { s with heap:=s.heap.update p f,toks:=t }:=by
 have e:(s.heap.update p f).get? p=some { cls:=.type "list",data:=.seq its'.toArray n' }:=by
  rw [bh f ho (by rw [hf] <;> rfl),hf]
 refine I.write (x:=p) (e:=p) (by rw [h]; trivial) (.inl rfl) (fun b u hb q=>(cy _ _ (aU hb)).trans q) ⟨_,e⟩ ?_
 exact ⟨hz,its',n',r,e⟩
def qf6:V->V->V->Hp->(Hp->Prop)->Prop:=fun o i v H Q=>∃ p xs k j,o=.ref p/\i=.int k/\H p=some (.lst xs)/\ixN xs.length k=some j/\Q (upd H p (.lst (xs.set j v)))
theorem Gs:qgU X qf6:=by
 intro pins s σ H o i v ov iv u Q I ro ri rv h
 obtain ⟨p,xs,k,j,rfl,rfl,hp,hj,q⟩:=h
 cases ro
 obtain ⟨t,rfl⟩:=ri
 obtain ⟨its,n,r,ho,hz⟩:=I.lst hp
 obtain ⟨h1,h2,h3,h4⟩:=Yy hj
 have hl:=r.length
 have hn:=gL
 have I':Inv X pins σ (upd H p (.lst (xs.set j v))) { s with heap:=s.heap.update p (cJ (·.setIfInBounds j u)) }:=
  I.lstUpd hp ho (Ur its n j u) (r.set rv j) (by rw [cY]; exact hz) s.toks
 by_cases h0:0<=k
 ·have hk:k.toNat=j:=by
   rw [seqIndex_of h0 h4] at h1
   exact bc.inj h1
  exact PySem.W.ki_setAt ho h0 (by omega) (by rw [aw,<-hl]; exact h4) (by rw [hk]; exact ⟨_,I',q⟩)
 ·have hk:(k+(its.toArray.size:Int)).toNat=j:=by
   rw [seqIndex_neg (by omega) h3] at h1
   rw [aw,<-hl]
   exact bc.inj h1
  exact PySem.W.ki_setBack ho (by omega) (by rw [aw,<-hl]; exact h3) (by omega) (by rw [hk]; exact ⟨_,I',q⟩)
theorem xu:wH X (.type "list") (fun xs H Q=>∃ p ys,xs=[.ref p]/\(SqL X.K H p ys\/SqT X.K H p ys)/\∀ l,H l=none->Q (.ref l) (upd H l (.lst ys))):=by
 intro pins s σ H xs us Q I r h
 obtain ⟨p,ys,rfl,hq,q⟩:=h
 obtain ⟨u,rfl,rx⟩:=uB r
 cases rx
 have fin:∀ (its:List Value),Vals ys its->ys.length<=sizeLine->∀ (h':Heap) (c':Nat),(∀ b o',s.heap.get? b=some o'->h'.get? b=some o') ->
   h'.get? s.heap.objs.size=some { cls:=.type "list",dict:=none,data:=.seq its.toArray c',slots:=#[] }->EP X pins σ Q (.ref s.heap.objs.size) { s with heap:=h' }:=fun its r' hz h' c' kp e=>
  ⟨.ref s.heap.objs.size,_,I.laid (t':=s.toks) kp (aB _) (show ObjOk X.prog X.w _ h' _ (.lst ys) from ⟨hz,its,c',r',e⟩),rfl,q _ (I.hok.fresh (aB _))⟩
 rcases hq with hq | hq
 ·obtain ⟨its,r',pl,hz⟩:=I.list hq
  have hlen:=r'.length
  obtain ⟨o,ho,hc,n,hd⟩:=pl.isList
  exact call_list_seq p (.inl rfl) ho hc hd (fun h' c' kp e=>fin its r' hz h' c' kp e) (by simp only [aw] <;> omega)
 ·obtain ⟨its,r',pl,hz⟩:=I.tuple hq
  have hlen:=r'.length
  obtain ⟨o,ho,hc,n,hd⟩:=pl
  exact call_list_seq p (.inr rfl) ho hc hd (fun h' c' kp e=>fin its r' hz h' c' kp e) (by simp only [aw] <;> omega)
theorem yd:wH X (.type "tuple") (fun xs H Q=>∃ p ys,xs=[.ref p]/\((SqL X.K H p ys/\∀ l,H l=none->Q (.ref l) (upd H l (.tup ys)))\/(SqT X.K H p ys/\Q (.ref p) H))):=by
 intro pins s σ H xs us Q I r h
 obtain ⟨p,ys,rfl,h⟩:=h
 obtain ⟨u,rfl,rx⟩:=uB r
 cases rx
 rcases h with ⟨hq,q⟩ | ⟨hq,q⟩
 ·obtain ⟨its,r',pl,hz⟩:=I.list hq
  have hlen:=r'.length
  refine call_tuple_list pl.isList (fun h' kp=>?_) (by simp only [aw] <;> omega)
  have I1:Inv X pins σ H { s with heap:=h' }:=I.kept (t':=s.toks) kp
  have I2:Inv X pins σ (upd H h'.objs.size (.tup ys)) { s with heap:=h'.push { cls:=.type "tuple",data:=.seq its.toArray } }:=
   I1.laid (t':=s.toks) (fun b o e=>ae _ e) (aB _) (show ObjOk X.prog X.w _ _ _ (.tup ys) from ⟨⟨hz,_,ak _ rfl,rfl⟩,its,r',IsTup.new _ _⟩)
  exact ⟨.ref h'.objs.size,_,I2,rfl,q _ (I1.hok.fresh (aB _))⟩
 ·obtain ⟨its,r',pl,hz⟩:=I.tuple hq
  exact call_tuple_same pl ⟨.ref p,H,I,rfl,q⟩
def tyV (K:Frag) (T:String) (x:V) (H:Hp):Prop:=match x with
 | .str _=>T = "str"
 | .int _=>T = "int"
 | .ref p=>(T = "list"/\∃ xs,SqL K H p xs)\/(T = "tuple"/\∃ o,K.lookup p=some o/\o.cls=.type "tuple"/\o.dict=none) \/
   (T = "dict"/\((∃ kvs,H p=some (.dK kvs))\/∃ kvs,H p=some (.dT kvs)))\/(T = "set"/\∃ S n,H p=some (.set S n))
 | _=>False
theorem qdY {x:V} {v:Value} (I:Inv X pins σ H s) (r:RelV x v) (ty:tyV X.K T x H) :
  s.TypeIs v T/\∀ a,v=.ref a->∃ ob,s.heap.get? a=some ob/\ob.dict=none:=by
 cases x with
 | str z=>
  obtain ⟨t,rfl⟩:=r
  cases (show T = "str" from ty)
  exact ⟨typeIs_str s z t,fun _ e=>nomatch e⟩
 | int i=>
  obtain ⟨t,rfl⟩:=r
  cases (show T = "int" from ty)
  exact ⟨typeIs_int s i t,fun _ e=>nomatch e⟩
 | ref p=>
  cases r
  rcases ty with ⟨rfl,xs,hq⟩ | ⟨rfl,o,hk,hc,hd⟩ | ⟨rfl,hk⟩ | ⟨rfl,S,n,hk⟩
  ·obtain ⟨its,_,pl,_⟩:=I.list hq
   refine ⟨pl.isList.typeIs,fun a e=>?_⟩
   cases e
   obtain ⟨o,n,e,c,hd,_⟩:=pl
   exact ⟨o,e,hd⟩
  ·refine ⟨⟨o,I.kIn p o hk,hc⟩,fun a e=>?_⟩
   cases e
   exact ⟨o,I.kIn _ o hk,hd⟩
  ·have z:∃ o,s.heap.get? p=some o/\o.ExactDict:=by
    rcases hk with ⟨kvs,hk⟩ | ⟨kvs,hk⟩
    ·obtain ⟨_,_,_,_,o,_,_,e,ex,_⟩:=I.hok p _ hk
     exact ⟨o,e,ex⟩
    ·obtain ⟨_,_,_,_,o,_,_,e,ex,_⟩:=I.hok p _ hk
     exact ⟨o,e,ex⟩
   obtain ⟨o,e,ex⟩:=z
   refine ⟨⟨o,e,ex.1⟩,fun a e2=>?_⟩
   cases e2
   exact ⟨o,e,ex.2.1⟩
  ·obtain ⟨o,_,_,_,e,ex,_⟩:=I.hok p _ hk
   refine ⟨⟨o,e,ex.1⟩,fun a e2=>?_⟩
   cases e2
   exact ⟨o,e,ex.2.1⟩
 | _=>exact cc ty
def tBM (K:Frag) (T:String) (r:V->List V->Hp->VK->Prop) (to:TE) (t:TA):TE:=fun σ H Q=>to σ H fun x H1=>tyV K T x H1/\t σ H1 fun xs H2=>r x xs H2 Q
variable {o:Expr} {es:List Expr} {to:TE} {t:TA} {name:Str} {apos cpos:Pos} {id:String} {r:V->List V->Hp->VK->Prop}
theorem Us (pa:PlainAttrs T) (slot:Slot T name id) (hty:typeOf (.builtin id)=pure (.type "method_descriptor")) (hm:MtR X id r) (ho:PE X o to) (ha:PA X (e::es) t)
  (hbase:attributeBase o name X.env (eval o X.env)=eval o X.env:=by rfl)
  (hfew:((backTo cpos (starEach (e::es) X.env)).all (fun x=>!x.1)&&(backToKw cpos (keywordEach [] X.env)).all (fun x=>x.1.isSome)
   && decide ((e::es).length+([]:List Keyword).length+(if ([]:List Keyword).isEmpty then 0 else 1) < 30))=true:=by rfl)
  (hline:(apos.endLine == cpos.line)=true:=by rfl) (hs:starEach (e::es) X.env=(false,eval e X.env)::starEach es X.env:=by rfl) (hplain:(backTo cpos (starEach es X.env)).any (·.1)=false:=by rfl) :
  PE X (.Call (.Attribute o name apos) (e::es) [] cpos) (tBM X.K T r to t):=by
 refine ⟨?_⟩
 intro pins s σ H Q I h
 refine wpAny_Call_method_late hbase hfew hline rfl (thn (ho pins s σ H _ I h) fun v s1 ⟨x,H1,I1,r1,ty,q1⟩=>?_)
 obtain ⟨h1,h2⟩:=qdY I1 r1 ty
 refine ⟨T,id,pa,slot,hty,h1,h2,?_⟩
 have hA:=ha cpos pins s1 σ H1 _ I1 q1
 rw [hs] at hA ⊢
 refine Calls.callWith_builtin (by show (false||(backTo cpos (starEach es X.env)).any (·.1))=false; rw [hplain] <;> rfl) (d7 ?_)
 exact thn hA fun us s2 ⟨vs,H2,I2,r2,q2⟩=>hm pins s2 σ H2 x vs v us Q I2 r1 r2 q2
end
def MtM (X:Cx) (id:String) (r:V->List V->Hp->VK->Prop):Prop:=
 ∀ (pins:List (Addr×Obj)) (s:Shared) (σ:St) (H:Hp) (x:V) (xs:List V) (v:Value) (us:List Value) (Q:VK),Inv X pins σ H s->RelV x v->Vals xs us->r x xs H Q ->
  wpAny (model X.prog X.w) X.A (call (.builtin id) (v::us)) (EP X pins σ Q) X.xe s
theorem Vals.one:∀ {x:V} {us:List Value},Vals [x] us->∃ u,us=[u]/\RelV x u
 | _,_,.cons r .nil=>⟨_,rfl,r⟩
theorem Vals.two:∀ {x y:V} {us:List Value},Vals [x,y] us->∃ u v,us=[u,v]/\RelV x u/\RelV y v
 | _,_,_,.cons r (.cons q .nil)=>⟨_,_,rfl,r,q⟩
theorem Vals.zero:∀ {us:List Value},Vals [] us->us=[]
 | _,.nil=>rfl
theorem Vals.eraseIdx:∀ {xs:List V} {us:List Value} (i:Nat),Vals xs us->Vals (xs.eraseIdx i) (us.eraseIdx i)
 | _,_,_,.nil=>.nil
 | _,_,0,.cons _ t=>t
 | _,_,i+1,.cons r t=>.cons r (Vals.eraseIdx i t)
theorem Vals.reverse (h:Vals xs us):Vals xs.reverse us.reverse:=by
 induction h with
 | nil=>exact .nil
 | cons r t ih=>rw [cj,cj]; exact Vals.append ih (.cons r .nil)
theorem Vals.rep (h:Vals xs us):∀ k:Nat,Vals (bu k xs).flatten (bu k us).flatten
 | 0=>.nil
 | k+1=>by
  rw [List.replicate_succ,List.replicate_succ,List.flatten_cons,List.flatten_cons]
  exact Vals.append h (Vals.rep h k)
theorem JG:∀ (l:List α) (i:Nat),(l.eraseIdx i).length<=l.length
 | [],_=>aB _
 | _::_,0=>eC _
 | _::r,i+1=>Nat.succ_le_succ (JG r i)
section
variable {l b:Addr} {ys zs:List V}
theorem Inv.lset {its its':List Value} {n:Nat} {f:Array Value->Array Value} {t':Nat} (I:Inv X pins σ H s) (hH:H l=some (.lst xs))
  (e:s.heap.get? l=some { cls:=.type "list",data:=.seq its.toArray n }) (hf:f its.toArray=its'.toArray) (hv:Vals ys its') (hz:ys.length<=sizeLine) :
  Inv X pins σ (upd H l (.lst ys)) { s with heap:=s.heap.update l (cJ f),toks:=t' }:=by
 have q:=PySem.IsL.update e f
 rw [hf] at q
 refine I.write (x:=l) (e:=l) (by rw [hH]; exact trivial) (.inl rfl) (fun b' u hb hu=>(cy s.heap (cJ f) (aU hb)).trans hu) ⟨_,q⟩ ?_
 exact ⟨hz,its',_,hv,q⟩
theorem Inv.lnew {its:List Value} {t':Nat} (I:Inv X pins σ H s) (hv:Vals ys its) (hz:ys.length<=sizeLine) :
  Inv X pins σ (upd H s.heap.objs.size (.lst ys)) { s with heap:=s.heap.push { cls:=.type "list",data:=.seq its.toArray },toks:=t' }:=
 I.laid (fun _ _ q=>ae _ q) (aB _) ⟨hz,its,0,hv,ak _ rfl⟩
theorem Inv.fresh (I:Inv X pins σ H s):H s.heap.objs.size=none:=I.hok.fresh (aB _)
theorem Inv.lstM (I:Inv X pins σ H s) (hH:H l=some (.lst xs)):xs.length<=sizeLine/\∃ (its:List Value) (n:Nat),Vals xs its/\xs.length=its.length/\s.heap.get? l=some { cls:=.type "list",data:=.seq its.toArray n }:=by
 obtain ⟨z,its,n,r,e⟩:=I.hok l _ hH
 exact ⟨z,its,n,r,r.length,e⟩
theorem Gu (h:n<=sizeLine):dA n=false:=by
 unfold dA
 exact decide_eq_false (by omega)
end
section
def KZ:V->List V->Hp->VK->Prop:=fun x vs H Q=>∃ l xs y,x=.ref l/\vs=[y]/\H l=some (.lst xs)/\xs.length < sizeLine/\Q .non (upd H l (.lst (xs++[y])))
theorem JH:MtM X "list.append" KZ:=by
 intro pins s σ H x vs v us Q I rx rv h
 obtain ⟨l,xs,y,rfl,rfl,hH,hz,q⟩:=h
 cases rx
 obtain ⟨u,rfl,ru⟩:=rv.one
 obtain ⟨z,its,n,r,hl,e⟩:=I.lstM hH
 refine call_meets F.slot_list_append ⟨_,e,rfl⟩ F.entry_list_append (F.args_list_append_2 _ _) (PySem.list_append l its.toArray n u (by rw [aw]; omega)) ⟨e,?_⟩
 refine ⟨.non,_,I.lset (its':=its++[u]) hH e (by simp) (r.append (.cons ru .nil)) ?_,rfl,q⟩
 rw [af,List.length_singleton]
 omega
def qb0:V->List V->Hp->VK->Prop:=fun x vs H Q=>∃ l b xs zs,x=.ref l/\vs=[.ref b]/\H l=some (.lst xs)/\H b=some (.lst zs)/\xs.length+zs.length<=sizeLine/\Q .non (upd H l (.lst (xs++zs)))
theorem Yz:MtM X "list.extend" qb0:=by
 intro pins s σ H x vs v us Q I rx rv h
 obtain ⟨l,b,xs,zs,rfl,rfl,hH,hB,hz,q⟩:=h
 cases rx
 obtain ⟨u,rfl,ru⟩:=rv.one
 cases ru
 obtain ⟨z,its,n,r,hl,e⟩:=I.lstM hH
 obtain ⟨z2,its2,n2,r2,hl2,e2⟩:=I.lstM hB
 have hsz:its.toArray.size+its2.toArray.size<=sizeLine:=by rw [aw,aw]; omega
 have hlong:¬(!its.toArray.isEmpty&&dA (its.toArray.size+its2.toArray.size))=true:=by
  rw [Gu hsz,Bool.and_false]
  exact br
 refine call_meets F.slot_list_extend ⟨_,e,rfl⟩ F.entry_list_extend (F.args_list_extend_2 _ _)
  (AutoSeq1.list_extend_list_list_0 l its.toArray n b its2.toArray n2 hlong (by rw [aw]; omega) (by omega)) ⟨e,e2,?_⟩
 refine ⟨.non,_,I.lset (its':=its++its2) hH e (by simp) (r.append r2) ?_,rfl,q⟩
 rw [af]
 omega
def qdZ:V->List V->Hp->VK->Prop:=fun x vs H Q=>∃ l xs i k y,x=.ref l/\vs=[.int i]/\H l=some (.lst xs)/\-(2 ^ 63)<=i/\i < 2 ^ 63/\seqIndex? i xs.length=some k/\xs[k]?=some y/\Q y (upd H l (.lst (xs.eraseIdx k)))
theorem Gv:MtM X "list.pop" qdZ:=by
 intro pins s σ H x vs v us Q I rx rv h
 obtain ⟨l,xs,i,k,y,rfl,rfl,hH,h1,h2,hk,hy,q⟩:=h
 cases rx
 obtain ⟨u,rfl,ru⟩:=rv.one
 obtain ⟨t,rfl⟩:=ru
 obtain ⟨z,its,n,r,hl,e⟩:=I.lstM hH
 obtain ⟨w,hw,rw'⟩:=r.get hy
 refine call_meets F.slot_list_pop ⟨_,e,rfl⟩ F.entry_list_pop (F.args_list_pop_2 _ _)
  (MeetsSeq.list_pop_at l its.toArray n i t k w (fitsIndex_both h1 h2) (by rw [aw,<-hl]; exact hk) (by rw [<-bi]; exact hw) (by rw [aw]; omega)) ⟨e,?_⟩
 refine ⟨y,_,I.lset (its':=its.eraseIdx k) hH e ?_ (r.eraseIdx k) ?_,rw',q⟩
 ·show its.toArray.eraseIdxIfInBounds k=(its.eraseIdx k).toArray
  rw [List.eraseIdxIfInBounds_toArray]
 ·have:=JG xs k
  omega
end
end L2
namespace Att
open PySem PySem.W PySem.Calls PyProof.Rows
theorem zt {P:Params} {h:Heap}:∀ (ns:List Int) (vs:List Value),WellAll P h vs (ns.map WData.int)->IntsAre vs ns:=by
 intro ns
 induction ns with
 | nil=>
  intro vs w
  rw [bT] at w
  cases w
  exact .nil
 | cons n ns ih=>
  intro vs w
  rw [aG] at w
  cases w with
  | cons a b=>
   cases a
   exact .cons _ _ (ih _ b)
theorem YA {l:OpenLaw} {n:Nat} (hn:l.most=some n) {P:Params} {h:Heap} {args:List WData} {vals:List Value}
  (hpre:l.row.toRowW.claim.pre args=true) (hwl:WellAll P h vals args) :
  ∃ a vs ns,vals=[bO a]/\args=[WData.list (ns.map WData.int)]/\h.get? a=some { cls:=.type "list",data:=.seq vs.toArray }/\IntsAre vs ns/\ns.length<=n:=by
 have hsh:WShape.hasAll [] args [.list .int]=true:=(pre_splitW hpre).1
 have hc:l.pre.holds [] { args:=args }=true:=(pre_splitW hpre).2
 obtain ⟨d,r,rfl,h1,h2⟩:=hasAllW_cons hsh
 obtain rfl:=hasAllW_nil h2
 obtain ⟨xs,rfl,h3⟩:=hasW_list h1
 obtain ⟨ns,rfl⟩:=items_int h3
 have hlen:ns.length<=n:=by
  unfold OpenLaw.pre at hc
  have h4:(WTm.not (.lt (.lit (.int (n:Int))) (.len (.arg 0)))).holds [] { args:=[.list (ns.map .int)] }=true:=by
   have h4:=(holds_andW hc).1
   rw [hn] at h4
   exact h4
  have h5:=condW_of h4 (w_not (w_lt w_lit (w_len_list (w_arg rfl))))
  rw [ay] at h5
  refine Nat.le_of_not_lt fun q=>?_
  have q':(n:Int) < ((ns.length:Nat):Int):=by omega
  first
   | (rw [decide_eq_true q'] at h5; exact absurd h5 (by decide))
   | (simp at h5; omega)
 cases hwl with
 | cons w1 w2=>
  cases w2
  cases w1 with
  | list ho hall=>exact ⟨_,_,ns,rfl,rfl,ho,zt ns _ hall,hlen⟩
theorem YB (l:OpenLaw) (args:List WData):l.row.toRowW.claim.post args (.bool true) args=true:=
 postW_of (r:=l.row.toRowW) (X:=(true == true))
  (show WShape.has [] (.bool true) .bool=true by first | rfl | decide | simp [WShape.has,WShape.arms,WShape.armsAll])
  (show (WTm.eq .res (.lit (.bool true))).value [] { args:=args,res:=some (.bool true),after:=args }=some (.bool (true == true)) from w_eq_bool (w_res rfl) w_lit) rfl
theorem attach_call {l:OpenLaw} {n:Nat} {q:Program} {loose:List Str} {XP:(Str->Option Value)->Heap->Prop} {YP:World->Heap->Prop} {d:DefRec}
  (hn:l.most=some n) (hdf:d.params.defaults=[])
  (call:∀ (w:World) (s₀ s₁:Shared) (mg mb:Str->Option Value) (fa:Addr) (o:Obj) (pm cd doc:Value) (a:Addr) (vs:List Value) (ns:List Int),
   Ground q loose [] XP w s₀ mg mb s₁.heap->YP w s₁.heap ->
   s₁.heap.get? fa=some o->o.data=.func (docDef d.name d.params d.body d.scope pm cd doc)->s₁.heap.CodeRec cd d.name->mg d.name=some (.ref fa) ->
   s₁.heap.get? a=some { cls:=.type "list",data:=.seq vs.toArray }->IntsAre vs ns->ns.length<=n->s₁.gens=#[] ->
   codeAny (model l.prog w) callerA (.call (.ref fa) ⟨[.ref a],[]⟩) (fun r s'=>r=.ok (.ret (.bool true))/\OldK s₁.heap s'.heap/\s'.os=s₁.os/\AllBare s'.gens) s₁) :
  WalkO q loose XP YP l.row.toRowW d [] (fun f vs=>fK f vs):=by
 intro w s₀ s₁ mg mb G Y fa o pm cd doc dV kV ho hd hcd hD hmg hg args vals as hpre hlay hrd hwl hlo
 obtain rfl:dV=.none:=Dflts.none hD hdf
 obtain rfl:kV=.none:=Dflts.noKw hD
 obtain ⟨a,vs,ns,rfl,rfl,hobj,hints,hlen⟩:=YA hn hpre hwl
 refine enter_call (codeAny_mono (call w s₀ s₁ mg mb fa o pm cd doc a vs ns G Y ho (fd_plain hd) hcd hmg hobj hints hlen hg) fun r s' hq=>?_)
 obtain ⟨rfl,h2,h3,h4⟩:=hq
 exact ⟨.inl ⟨.bool true,.bool true,[],rfl,fun _=>rfl,.bool true,YB l _,fun _=>⟨eD,fun _ hm=>(nomatch hm)⟩⟩,h2,h3,h4⟩
end Att
namespace L2
open PySem PySem.Spec PyProof.Rows
theorem JI:∀ {vs:List Value} {ns:List Int},IntsAre vs ns->Vals (ns.map V.int) vs
 | _,_,.nil=>.nil
 | _,_,.cons n t h=>.cons ⟨t,rfl⟩ (JI h)
def qf7 (H:Hp):Prop:=∀ b,H b=none\/∃ o xs,H b=some (.frz o (.lst xs))
theorem Gw {P:Program} {w:World} {K:Frag} {mg mb:Str->Option Value} {CX:CXT} {k:Nat} {fa a:Addr} {fd:FuncData} {x:Str} {sp:Sp} {s₁:Shared} {vs:List Value} {ns:List Int}
  (KX:K.In s₁.heap) (hns:s₁.heap.Ns mainGlobals mg) (hb:s₁.heap.Ns builtinsNs mb) (hbb:∀ x:Str,x ≠ "__name__"->mb x=bootBuiltins x) (hlim:s₁.heap.NoLimit) (hg:s₁.gens=#[])
  (ha:s₁.heap.get? a=some { cls:=.type "list",data:=.seq vs.toArray }) (hi:IntsAre vs ns) (hl:ns.length<=sizeLine) (hr:Room k callerA)
  (F:∀ base:Heap,K.In base->base.Ns mainGlobals mg->FnOk P w K mg base CX k fa fd [x] sp) (hbind:∀ (s:Shared) (u:Value),BindsTo s fd ⟨[u],[]⟩ [(x,u)])
  (hsp:∀ H:Hp,qf7 H->SqL K H a (ns.map V.int)->sp [.ref a] H (fun v _=>v=.bl true) fun _ _ _=>False)
  (hCX:∀ H e s',CX [] H s₁ (fun _ _ _=>False) e s'->False) :
  codeAny (model P w) callerA (.call (.ref fa) ⟨[.ref a],[]⟩) (fun r s'=>r=.ok (.ret (.bool true))/\OldK s₁.heap s'.heap/\s'.os=s₁.os/\AllBare s'.gens) s₁:=by
 have rv:=JI hi
 have lenV:=hi.length
 have core:∀ H:Hp,qf7 H->SqL K H a (ns.map V.int)->HOk P w H s₁.heap->(∀ b,H b≠none->b=a)->(H a≠none->K.lookup a=none) ->
   codeAny (model P w) callerA (.call (.ref fa) ⟨[.ref a],[]⟩) (fun r s'=>r=.ok (.ret (.bool true))/\OldK s₁.heap s'.heap/\s'.os=s₁.os/\AllBare s'.gens) s₁:=by
  intro H hO hS hok hA hK
  have base_of:∀ {b:Addr} {o:Obj},s₁.heap.get? b=some o->H b=none->(Gg s₁.heap H).get? b=some o:=fun e n=>Gh e n
  have noA:∀ {b:Addr} {o:Obj} {es:Array DictEntry} {ep:Nat},s₁.heap.get? b=some o->o.data=.dict es ep->H b=none:=fun {b o es ep} e d=>by
   cases q:H b with
   | none=>rfl
   | some u=>
    have e':b=a:=hA b (by rw [q]; simp)
    subst e'
    rw [ha] at e; cases e
    have d':Data.seq vs.toArray _=Data.dict es ep:=d
    cases d'
  have nsK:∀ {b:Addr} {m:Str->Option Value},s₁.heap.Ns b m->(Gg s₁.heap H).Ns b m:=fun {b m} ⟨o,es,ep,e,d,r⟩=>⟨o,es,ep,base_of e (noA e d),d,r⟩
  have hKb:K.In (Gg s₁.heap H):=fun b o e=>base_of (KX b o e) (by
   cases q:H b with
   | none=>rfl
   | some u=>
    have e':b=a:=hA b (by rw [q]; simp)
    subst e'
    rw [hK (by rw [q]; simp)] at e; cases e)
  have hM:Mod K mg (Gg s₁.heap H):=⟨hKb,nsK hns,⟨mb,nsK hb,hbb⟩,let ⟨mc,h1,h2⟩:=hlim; ⟨mc,nsK h1,h2⟩⟩
  have e0:Env0 P w K mg (Gg s₁.heap H) callerA [] s₁ H:=⟨rfl,hM,fun b o e=>qbK e,dR (Yj _ _),trivial,fun b hb=>absurd (show b∈([]:List Addr) from hb) (by simp),hok,.of_eq hg⟩
  refine codeAny_mono ((F _ hKb (nsK hns)).run callerA [] s₁ H ⟨[.ref a],[]⟩ [.ref a] [.ref a] _ _ hr e0 (hbind s₁ (.ref a)) (.cons rfl .nil) (hsp H hO hS)) fun r s' h=>?_
  cases r with
  | error e=>exact (hCX H e s' h).elim
  | ok fl=>
   cases fl with
   | next=>exact cc h
   | brk=>exact cc h
   | cont=>exact cc h
   | ret u=>
    obtain ⟨v,H',os,bare,un,hok',r',q⟩:=h
    have q':v=.bl true:=q
    subst q'
    obtain rfl:u=aN true:=r'
    refine ⟨rfl,OldK.of_keep fun b o e=>?_,os,bare⟩
    cases q:H b with
    | none=>exact un.keep b o e q (by intro z; exact absurd (show b∈([]:List Addr) from z) (by simp)) (by simp)
    | some u=>
     rcases hO b with z | ⟨ob,xs,z⟩
     ·rw [q] at z; cases z
     ·have z2:=un.frzs b ob _ z
      obtain ⟨e1,_⟩:=hok b _ z
      obtain ⟨e2,_⟩:=hok' b _ z2
      rw [e] at e1; cases e1
      exact e2
 cases hk:K.lookup a with
 | some o=>
  have e:=KX a o hk
  rw [ha] at e
  cases e
  refine core (fun _=>none) (fun _=>.inl rfl) (.inr ⟨_,vs.toArray,_,hk,rfl,rfl,rfl,by rw [aw,lenV]; exact hl,by simpa using rv⟩) (fun b u z=>by have z':(none:Option HO)=some u:=z; cases z') (fun b z=>absurd rfl z) fun z=>absurd rfl z
 | none=>
  refine core (fun b=>if b=a then some (.frz { cls:=.type "list",data:=.seq vs.toArray } (.lst (ns.map V.int))) else none) (fun b=>?_) (.inl (.inr ⟨{ cls:=.type "list",data:=.seq vs.toArray },if_pos rfl⟩)) (fun b u z=>?_) (fun b z=>?_) fun _=>hk
  ·by_cases hb:b=a
   ·exact .inr ⟨_,_,if_pos hb⟩
   ·exact .inl (if_neg hb)
  ·by_cases hb:b=a
   ·have z':=(if_pos hb).symm.trans z
    cases z'
    subst hb
    exact ⟨ha,by rw [ay]; exact hl,vs,_,rv,ha⟩
   ·have z':=(if_neg hb).symm.trans z
    cases z'
  ·by_cases hb:b=a
   ·exact hb
   ·exact absurd (if_neg hb) z
theorem qb1 {l:fg} {n k:Nat} {q:Program} {loose:List Str} {XP:(Str->Option Value)->Heap->Prop} {YP:World->Heap->Prop} {d:DefRec} {K:Params->Frag} {CX:World->CXT} {sp:World->Sp} {x:Str}
  (hn:l.most=some n) (hn2:n<=sizeLine) (hdf:d.params.defaults=[]) (hr:Room k callerA)
  (hY:∀ (w:World) (h:Heap),YP w h->(K w.params).In h)
  (F:∀ (w:World) (mg:Str->Option Value) (fa:Addr) (h:Heap),(K w.params).In h->h.Ns mainGlobals mg->mg d.name=some (.ref fa) ->
   ∃ fd:FuncData,(∀ (s:Shared) (u:Value),BindsTo s fd ⟨[u],[]⟩ [(x,u)]) /\
    ∀ base:Heap,(K w.params).In base->base.Ns mainGlobals mg->FnOk l.prog w (K w.params) mg base (CX w) k fa fd [x] (sp w))
  (hsp:∀ (w:World) (H:Hp) (a:Addr) (ns:List Int),ns.length<=n->qf7 H->SqL (K w.params) H a (ns.map V.int)->sp w [.ref a] H (fun v _=>v=.bl true) fun _ _ _=>False)
  (hCX:∀ (w:World) (H:Hp) (s:Shared) (e:Value) (s':Shared),CX w [] H s (fun _ _ _=>False) e s'->False) :
  PySem.W.WalkO q loose XP YP l.row.toRowW d [] (fun f vs=>fK f vs):=by
 refine Att.attach_call hn hdf fun w s₀ s₁ mg mb fa o pm cd doc a vs ns G Y ho hd hcd hmg hobj hints hlen hg=>?_
 have KX:=hY w _ Y
 obtain ⟨fd,hb,hF⟩:=F w mg fa _ KX G.T.g hmg
 exact Gw KX G.T.g G.T.b G.T.builtins G.T.nolimit hg hobj hints (be hlen hn2) hr hF hb (fun H hO hS=>hsp w H a ns hlen hO hS) fun H e s'=>hCX w H s₁ e s'
noncomputable def uK (s:Stmt):Arguments:=match s with
 | .FunctionDef _ a _ _ _ _ _ _ _ _=>a
 | _=>{ posonlyargs:=[],args:=[],vararg:=none,kwonlyargs:=[],kw_defaults:=[],kwarg:=none,defaults:=[] }
noncomputable def kU (s:Stmt):List Stmt:=match s with
 | .FunctionDef _ _ b _ _ _ _ _ _ _=>b
 | _=>[]
noncomputable def qf (s:Stmt):Scope:=match s with
 | .FunctionDef _ _ _ _ _ _ sc _ _ _=>sc
 | _=>{ kind:=.function,names:=[],isGenerator:=false,isCoroutine:=false }
structure Fun (K:Frag) (x qual:Str) (st:Stmt) (f:Addr) (fd:FuncData):Prop where
 ex:∃ (oc:Value) (od:Option Addr) (kV doc pm:Value) (an:Option Addr) (cdv ct:Value) (osl:Array (Option Value)),
  fd=cg x qual (uK st) (kU st) (qf st) .none kV doc pm an cdv ct/\K.lookup f=some ⟨oc,od,.func fd,osl⟩/\codeIn K cdv qual=true
 kp:keepIn K (.ref f)=true
variable {P:Program} {w:World} {K:Frag} {x qual:Str} {st:Stmt} {f:Addr}
section
variable {mg:Str->Option Value} {base:Heap}
theorem Fun.binds {fd:FuncData} {ps:List Str} (F:Fun K x qual st f fd)
  (h:∀ (kV doc pm:Value) (an:Option Addr) (cdv ct:Value) (us:List Value),us.length=ps.length->bindArgs (cg x qual (uK st) (kU st) (qf st) .none kV doc pm an cdv ct) ⟨us,[]⟩=pure (ps.zip us)):Binds K fd ps []:=by
 obtain ⟨oc,od,kV,doc,pm,an,cdv,ct,osl,rfl,lk,hcd⟩:=F.ex
 exact .all (h kV doc pm an cdv ct)
theorem YC {oc:Value} {od an:Option Addr} {osl:Array (Option Value)} {kV doc pm cdv ct:Value} (l:K.lookup f=some ⟨oc,od,.func (cg x qual (uK st) (kU st) (qf st) .none kV doc pm an cdv ct),osl⟩)
  (c:codeIn K cdv qual=true) (k:keepIn K (.ref f)=true):Fun K x qual st f (cg x qual (uK st) (kU st) (qf st) .none kV doc pm an cdv ct):=⟨⟨oc,od,kV,doc,pm,an,cdv,ct,osl,rfl,l,c⟩,k⟩
end
variable {X:Cx}
section
theorem pv (i:Nat) {pos:Pos} (hN:X.N[i]?=some x:=by rfl) (hv:Vis X.env.scope x:=by first | exact ax rfl | exact bB (ax rfl) | exact bB (bB rfl)) (hd:(x == ("__debug__":Str))=false:=by decide)
  (hcd:(x == ("__classdict__":Str))=false:=by decide):PE X (.Name x pos) (qfM i):=uD hN hv hd hcd
end
def Same (H H':Hp):Prop:=∀ b o,H b=some o->H' b=some o
theorem Same.refl (H:Hp):Same H H:=fun _ _ h=>h
variable {H:Hp}
theorem Same.trans {H1 H2:Hp} (a:Same H H1) (b:Same H1 H2):Same H H2:=fun c o h=>b c o (a c o h)
variable {H':Hp}
theorem Same.free (e:Same H H') {l:Addr} (h:H' l=Option.none):H l=Option.none:=by
 cases q:H l with
 | none=>rfl
 | some o=>
  rw [e l o q] at h
  cases h
variable {a:Addr}
theorem Same.seq {xs:List V} (e:Same H H') (h:SqL K H a xs):SqL K H' a xs:=by
 rcases h with (h | ⟨o,h⟩) | h
 ·exact .inl (.inl (e _ _ h))
 ·exact .inl (.inr ⟨o,e _ _ h⟩)
 ·exact .inr h
variable {o:Option V} {u:Value} {d y:V}
section
variable {κ:Type} [DecidableEq κ]
noncomputable def KQ (kvs:List (κ×V)) (k:κ):Option V:=(kvs.find? fun kv=>decide (kv.1=k)).map (·.2)
noncomputable def xL (kvs:List (κ×V)) (k:κ) (v:V):List (κ×V):=
 if (kvs.any fun kv=>decide (kv.1=k))=true then kvs.map (fun kv=>if kv.1=k then (kv.1,v) else kv) else kvs++[(k,v)]
theorem xT {p:κ×V} {r:List (κ×V)} {k:κ} (e:p.1=k):KQ (p::r) k=some p.2:=by simp [KQ,cZ,e]
theorem ye {p:κ×V} {r:List (κ×V)} {k:κ} (e:¬p.1=k):KQ (p::r) k=KQ r k:=by simp [KQ,cZ,e]
theorem Qh (k:κ):∀ kvs:List (κ×V),(kvs.any fun kv=>decide (kv.1=k))=(KQ kvs k).isSome
 | []=>rfl
 | p::r=>by
  rw [cK]
  by_cases e:p.1=k
  ·simp only [xT e,decide_eq_true e,Bool.true_or,Option.isSome_some]
  ·rw [ye e,decide_eq_false e,Bool.false_or]; exact Qh k r
theorem uL (kvs:List (κ×V)) (k:κ) (v:V):(xL kvs k v).length<=kvs.length+1:=by
 unfold xL
 split
 ·rw [ay]; omega
 ·rw [af,ao,bv]; omega
theorem RelO.isSome_eq {u:Option Value} (r:RelO o u):o.isSome=u.isSome:=by
 cases o with
 | none=>cases u with
  | none=>rfl
  | some _=>exact (show False from r).elim
 | some _=>cases u with
  | none=>exact (show False from r).elim
  | some _=>rfl
theorem RelO.getD {u:Option Value} {d':Value} (r:RelO o u) (rd:RelV d d'):RelV (o.getD d) (u.getD d'):=by
 cases o with
 | none=>cases u with
  | none=>exact rd
  | some _=>exact (show False from r).elim
 | some _=>cases u with
  | none=>exact (show False from r).elim
  | some _=>exact r
theorem KV.val {kvs:List (κ×V)} {vs:List (κ×Value)} (r:KV kvs vs) (k:κ):RelO (KQ kvs k) (valueAt vs k):=by
 unfold KV at r
 induction r with
 | nil=>exact dh
 | @cons p q ps qs h t ih=>
  obtain ⟨h1,h2⟩:=h
  by_cases e:p.1=k
  ·have e':q.1=k:=h1.symm.trans e
   have b:valueAt (q::qs) k=some q.2:=by simp [valueAt,cZ,e']
   rw [xT e,b]; exact h2
  ·have e':¬q.1=k:=fun z=>e (h1.trans z)
   have b:valueAt (q::qs) k=valueAt qs k:=by simp [valueAt,cZ,e']
   rw [ye e,b]; exact ih
theorem KV.any {kvs:List (κ×V)} {vs:List (κ×Value)} (r:KV kvs vs) (k:κ):(kvs.any fun kv=>decide (kv.1=k))=vs.any fun kv=>decide (kv.1=k):=by
 unfold KV at r
 induction r with
 | nil=>rfl
 | cons h t ih=>rw [cK,cK,ih,h.1]
theorem KV.repl {kvs:List (κ×V)} {vs:List (κ×Value)} (r:KV kvs vs) (k:κ) (ry:RelV y u) :
  KV (kvs.map fun kv=>if kv.1=k then (kv.1,y) else kv) (vs.map fun kv=>if kv.1=k then (kv.1,u) else kv):=by
 unfold KV at r ⊢
 induction r with
 | nil=>exact .nil
 | @cons p q ps qs h t ih=>
  rw [aG,aG]
  refine .cons ?_ ih
  obtain ⟨h1,h2⟩:=h
  by_cases e:p.1=k
  ·rw [if_pos e,if_pos (h1.symm.trans e)]; exact ⟨h1,ry⟩
  ·rw [if_neg e,if_neg (fun z=>e (h1.trans z))]; exact ⟨h1,h2⟩
theorem KV.put {kvs:List (κ×V)} {vs:List (κ×Value)} (r:KV kvs vs) (k:κ) (ry:RelV y u):KV (xL kvs k y) (stored vs k u):=by
 unfold xL stored
 rw [r.any k]
 by_cases e:(vs.any fun kv=>decide (kv.1=k))=true
 ·rw [if_pos e,if_pos e]; exact r.repl k ry
 ·rw [if_neg e,if_neg e]; exact Paired.snoc r ⟨rfl,ry⟩
theorem KV.keys {kvs:List (κ×V)} {vs:List (κ×Value)} (r:KV kvs vs):kvs.map (·.1)=vs.map (·.1):=by
 unfold KV at r
 induction r with
 | nil=>rfl
 | cons h t ih=>rw [aG,aG,ih,h.1]
theorem KV.length {kvs:List (κ×V)} {vs:List (κ×Value)} (r:KV kvs vs):kvs.length=vs.length:=eM r
end
theorem Ut {k:Key} (r:RelV (kV k) u):(qQ P w).is k u=true:=by
 cases k with
 | inl i=>obtain ⟨t,e⟩:=(show ∃ t,u=fz i t from r); subst e; exact KS P w i t
 | inr x=>obtain ⟨t,e⟩:=(show ∃ t,u=eO x t from r); subst e; exact KU P w x t
theorem JJ:∀ {ks:List Key} {us:List Value},Vals (ks.map kV) us->ItemsAre (qQ P w) ks us
 | [],_,r=>by rw [bT] at r; cases r; exact .nil
 | k::ks,_,r=>by
  rw [aG] at r
  cases r with
  | cons h t=>exact .cons (Ut h) (JJ t)
abbrev KT (H:Hp):List (List Key×V)->List (List Key×Addr×Value)->Prop:=Paired fun p q=>p.1=q.1/\H q.2.1=some (.tup (p.1.map kV))/\RelV p.2 q.2.2
variable {xs:List (List Key×Addr×Value)} {kvs:List (List Key×V)}
theorem KT.val (r:KT H kvs xs) (k:List Key):RelO (KQ kvs k) ((atKey xs k).map (·.2)):=by
 induction r with
 | nil=>exact dh
 | @cons p q ps qs h t ih=>
  obtain ⟨h1,_,h2⟩:=h
  by_cases e:p.1=k
  ·have e':q.1=k:=h1.symm.trans e
   have b:atKey (q::qs) k=some q.2:=by simp [atKey,cZ,e']
   rw [xT e,b]; exact h2
  ·have e':¬q.1=k:=fun z=>e (h1.trans z)
   have b:atKey (q::qs) k=atKey qs k:=by simp [atKey,cZ,e']
   rw [ye e,b]; exact ih
theorem KT.repl (r:KT H kvs xs) (k:List Key) (ry:RelV y u) :
  KT H (kvs.map fun kv=>if kv.1=k then (kv.1,y) else kv) (xs.map (putAt k u)):=by
 induction r with
 | nil=>exact .nil
 | @cons p q ps qs h t ih=>
  rw [aG,aG]
  refine .cons ?_ ih
  obtain ⟨h1,h2,h3⟩:=h
  unfold putAt
  by_cases e:p.1=k
  ·rw [if_pos e,if_pos (h1.symm.trans e)]; exact ⟨h1,h2,ry⟩
  ·rw [if_neg e,if_neg (fun z=>e (h1.trans z))]; exact ⟨h1,h2,h3⟩
variable {b:Addr}
theorem KT.put (r:KT H kvs xs) (k:List Key) (hb:H b=some (.tup (k.map kV))) (ry:RelV y u) :
  KT H (xL kvs k y) (storedH xs k b u):=by
 have e:(kvs.any fun kv=>decide (kv.1=k))=(atKey xs k).isSome:=by
  rw [Qh,(r.val k).isSome_eq,eE]
 unfold xL storedH
 rw [e]
 by_cases q:(atKey xs k).isSome=true
 ·rw [if_pos q,if_pos q]; exact r.repl k ry
 ·rw [if_neg q,if_neg q]; exact Paired.snoc r ⟨rfl,hb,ry⟩
theorem KT.keeps (r:KT H kvs xs) (ht:∀ b ys,H b=some (.tup ys)->H' b=some (.tup ys)):KT H' kvs xs:=
 Paired.mapP r fun _ _ z=>⟨z.1,ht _ _ z.2.1,z.2.2⟩
section
variable {h:Heap}
theorem qd0 {u:HO} (ok:HOk P w H h) (e:Rd H a u):ObjOk P w H h a u:=e.ok ok
theorem JK {kvs:List (Key×V)} (ok:HOk P w H h) (e:Rd H a (.dK kvs)):kvs.length<=sizeLine/\(a == sysModules)=false/\∃ vs,KV kvs vs/\h.DictOf (qQ P w) a vs:=
 show ObjOk P w H h a (.dK kvs) from qd0 ok e
theorem qf8 {kvs:List (Key×V)} (ok:HOk P w H h) (e:H a=some (.dK kvs)):kvs.length<=sizeLine/\(a == sysModules)=false/\∃ vs,KV kvs vs/\h.DictOf (qQ P w) a vs:=JK ok (.inl e)
theorem xw {ks:List Key} (ok:HOk P w H h) (e:H a=some (.tup (ks.map kV))):(tupleKind (qQ P w)).is h ks a:=by
 obtain ⟨_,its,r,o,h1,h2,n,h3⟩:=(show ObjOk P w H h a (.tup (ks.map kV)) from ok a _ e)
 exact ⟨o,its.toArray,n,h1,h2,h3,by simpa using JJ r⟩
theorem Va (ok:HOk P w H h) (e:Rd H a (.dT kvs)):kvs.length<=sizeLine/\(a == sysModules)=false /\
  ∃ xs,KT H kvs xs/\h.DictOfH (tupleKind (qQ P w)) a xs:=by
 obtain ⟨z,y,xs,r,o,es,ep,h1,h2,h3,h4,h5⟩:=(show ObjOk P w H h a (.dT kvs) from qd0 ok e)
 refine ⟨z,y,xs,r,o,es,ep,h1,h2,h3,h4,fun x hx=>?_,h5⟩
 have all:∀ {l:List (List Key×V)} {m:List (List Key×Addr×Value)},KT H l m->∀ x∈m,(tupleKind (qQ P w)).is h x.1 x.2.1:=by
  intro l m q
  induction q with
  | nil=>intro x hx; exact nomatch hx
  | @cons p q ps qs hq t ih=>
   intro x hx
   rcases ac.mp hx with e | hx
   ·subst e
    exact xw ok (by rw [<-hq.1]; exact hq.2.1)
   ·exact ih x hx
 exact all r x hx
theorem qf9 (ok:HOk P w H h) (e:H a=some (.dT kvs)):kvs.length<=sizeLine/\(a == sysModules)=false /\
  ∃ xs,KT H kvs xs/\h.DictOfH (tupleKind (qQ P w)) a xs:=Va ok (.inl e)
end
def DGet (H:Hp) (a:Addr) (y:V) (r:Option V):Prop:=
 (∃ kvs k,Rd H a (.dK kvs)/\y=kV k/\r=KQ kvs k)\/∃ kvs k b,Rd H a (.dT kvs)/\y=.ref b/\H b=some (.tup (k.map kV))/\r=KQ kvs k
def DPut (H:Hp) (a:Addr) (y v:V) (H':Hp):Prop:=
 (∃ kvs k,H a=some (.dK kvs)/\y=kV k/\kvs.length < sizeLine/\H'=upd H a (.dK (xL kvs k v))) \/
 ∃ kvs k b,H a=some (.dT kvs)/\y=.ref b/\H b=some (.tup (k.map kV))/\kvs.length < sizeLine/\H'=upd H a (.dT (xL kvs k v))
theorem DGet.k {kvs:List (Key×V)} {k:Key} (e:H a=some (.dK kvs)):DGet H a (kV k) (KQ kvs k):=.inl ⟨kvs,k,.inl e,rfl,rfl⟩
theorem DGet.t {k:List Key} (e:H a=some (.dT kvs)) (eb:H b=some (.tup (k.map kV))):DGet H a (.ref b) (KQ kvs k):=.inr ⟨kvs,k,b,.inl e,rfl,eb,rfl⟩
variable {v:V}
theorem DPut.k {kvs:List (Key×V)} {k:Key} (e:H a=some (.dK kvs)) (hl:kvs.length < sizeLine):DPut H a (kV k) v (upd H a (.dK (xL kvs k v))):=.inl ⟨kvs,k,e,rfl,hl,rfl⟩
theorem DPut.t {k:List Key} {v:V} (e:H a=some (.dT kvs)) (eb:H b=some (.tup (k.map kV))) (hl:kvs.length < sizeLine) :
  DPut H a (.ref b) v (upd H a (.dT (xL kvs k v))):=.inr ⟨kvs,k,b,e,rfl,eb,hl,rfl⟩
variable {pins:List (Addr×Obj)} {σ:St} {s:Shared} {A:Around} {E Q:Value->Shared->Prop} {h':Heap}
section
variable {r:Value}
theorem Inv.big (I:Inv X pins σ H s):sysModules < s.heap.objs.size:=by
 have h:mainGlobals < s.heap.objs.size:=(I.mod.glob.keeps I.bk).lt
 exact cV (by decide) h
theorem YD (hu:A.units+1 < cLine) (I:Inv X pins σ H s) (g:DGet H a y (some v)) (ry:RelV y u) (h:∀ w' s',Inv X pins σ H s'->RelV v w'->Q w' s') :
  wpAny (model X.prog X.w) A (getItem (.ref a) u) Q E s:=by
 rcases g with ⟨kvs,k,e,ey,l⟩ | ⟨kvs,k,b,e,ey,eb,l⟩
 ·subst ey
  obtain ⟨z,hd,vs,rel,dd⟩:=JK I.hok e
  obtain ⟨w',hw,rw'⟩:=RelO.some_of (v:=v) (o:=valueAt vs k) (by rw [l]; exact rel.val k)
  exact wpAny_getItem_of (Ut ry) dd.mapOf hw (h w' _ (I.tok _) rw')
 ·subst ey
  cases (show u=bO b from ry)
  obtain ⟨z,hd,xs,rel,dd⟩:=Va I.hok e
  obtain ⟨w',hw,rw'⟩:=RelO.some_of (v:=v) (o:=(atKey xs k).map (·.2)) (by rw [l]; exact rel.val k)
  obtain ⟨p,hp,hp2⟩:=aO.mp hw
  refine wpAny_getItem_heap (tupleKind_room_in1 hu) (xw I.hok eb) dd hp ?_
  rw [hp2]
  exact h w' _ (I.tok _) rw'
theorem qhB (hu:A.units+1 < cLine) (I:Inv X pins σ H s) (g:DGet H a y o) (ry:RelV y u) (h:∀ s',Inv X pins σ H s'->Q (.bool o.isSome) s') :
  wpAny (model X.prog X.w) A (compareOp .In u (.ref a)) Q E s:=by
 rcases g with ⟨kvs,k,e,ey,l⟩ | ⟨kvs,k,b,e,ey,eb,l⟩
 ·subst ey
  obtain ⟨z,hd,vs,rel,dd⟩:=JK I.hok e
  refine wpAny_in_of (Ut ry) hd dd.mapOf ?_
  rw [<-(rel.val k).isSome_eq,<-l]
  exact h _ (I.tok _)
 ·subst ey
  cases (show u=bO b from ry)
  obtain ⟨z,hd,xs,rel,dd⟩:=Va I.hok e
  refine wpAny_in_heap (tupleKind_room_in1 hu) (xw I.hok eb) hd dd ?_
  have q:=(rel.val k).isSome_eq
  rw [eE] at q
  rw [<-q,<-l]
  exact h _ (I.tok _)
theorem qb2 (hu:A.units+1 < cLine) (I:Inv X pins σ H s) (g:DGet H a y o) (ry:RelV y u) (h:∀ s',Inv X pins σ H s'->Q (.bool (!o.isSome)) s') :
  wpAny (model X.prog X.w) A (compareOp .NotIn u (.ref a)) Q E s:=by
 rcases g with ⟨kvs,k,e,ey,l⟩ | ⟨kvs,k,b,e,ey,eb,l⟩
 ·subst ey
  obtain ⟨z,hd,vs,rel,dd⟩:=JK I.hok e
  refine wpAny_notIn_of (Ut ry) hd dd.mapOf ?_
  rw [<-(rel.val k).isSome_eq,<-l]
  exact h _ (I.tok _)
 ·subst ey
  cases (show u=bO b from ry)
  obtain ⟨z,hd,xs,rel,dd⟩:=Va I.hok e
  refine wpAny_notIn_heap (tupleKind_room_in1 hu) (xw I.hok eb) hd dd ?_
  have q:=(rel.val k).isSome_eq
  rw [eE] at q
  rw [<-q,<-l]
  exact h _ (I.tok _)
theorem YE {t':Nat} {ob:HO} (I:Inv X pins σ H s) (mu:Mut (H a)) (hs:bL a s.heap h') (he:∃ q,h'.get? a=some q) (new:ObjOk X.prog X.w (upd H a ob) h' a ob) :
  Inv X pins σ (upd H a ob) { s with heap:=h',toks:=t' }:=
 I.write (x:=a) (e:=a) mu (.inl rfl) (fun b q hb z=>(hs.2 b hb).trans z) he new
theorem YF {H':Hp} {kvs:List (Key×V)} {vs:List (Key×Value)} (z:kvs.length<=sizeLine) (hd:(a == sysModules)=false) (rel:KV kvs vs) (dd:h'.DictOf (qQ P w) a vs) :
  ObjOk P w H' h' a (.dK kvs):=⟨z,hd,vs,rel,dd⟩
theorem YG {Q:Unit->Shared->Prop} (hu:A.units+1 < cLine) (I:Inv X pins σ H s) (g:DPut H a y v H') (ry:RelV y u) (rv:RelV v r) (h:∀ s',Inv X pins σ H' s'->Q () s') :
  wpAny (model X.prog X.w) A (setItem (.ref a) u r) Q E s:=by
 rcases g with ⟨kvs,k,e,ey,l,eH⟩ | ⟨kvs,k,b,e,ey,eb,l,eH⟩
 ·subst ey eH
  obtain ⟨z,hd,vs,rel,dd⟩:=qf8 I.hok e
  have hz:vs.length<=sizeLine:=by rw [<-rel.length]; exact z
  have hl:(xL kvs k v).length<=sizeLine:=by have:=uL kvs k v; omega
  refine wpAny_setItem_pairs (hsz:=hz) (Ut ry) dd fun h' dd' hs=>h _ ?_
  have he:∃ q,h'.get? a=some q:=let ⟨q,_,_,hq,_⟩:=dd'; ⟨q,hq⟩
  exact YE I (by rw [e]; exact dh) hs he (YF hl hd (rel.put k rv) dd')
 ·subst ey eH
  cases (show u=bO b from ry)
  obtain ⟨z,hd,xs,rel,dd⟩:=qf9 I.hok e
  have hz:xs.length<=sizeLine:=by rw [<-eM rel]; exact z
  have hl:(xL kvs k v).length<=sizeLine:=by have:=uL kvs k v; omega
  refine wpAny_setItem_heap (hsz:=hz) (tupleKind_room_in1 hu) (xw I.hok eb) dd fun h' dd' hs=>h _ ?_
  obtain ⟨q,es,ep,hq,h2,h3,h4,_,h5⟩:=dd'
  refine YE I (by rw [e]; exact dh) hs ⟨q,hq⟩ ⟨hl,hd,_,(rel.put k eb rv).keeps fun c ys ec=>?_,q,es,ep,hq,h2,h3,h4,h5⟩
  rw [qB (qfL ec e (fun z=>nomatch z))]
  exact ec
end
section
variable {kvs:List (Key×V)} {k:Key}
theorem qga (I:Inv X pins σ H s) (e:Rd H a (.dK kvs)) (h:∀ t s',Inv X pins σ H s'->Q (.int kvs.length t) s'):wpAny (model X.prog X.w) A (call (.builtin "len") [.ref a]) Q E s:=by
 obtain ⟨z,hd,vs,rel,dd⟩:=JK I.hok e
 refine call_len_dict hd dd (by rw [<-rel.length]; rw [sizeLine_eq] at z; omega) ?_
 rw [<-rel.length]
 exact h _ _ (I.tok _)
end
theorem Vb (I:Inv X pins σ H s) (g:DGet H a y o):s.TypeIs (.ref a) "dict":=by
 rcases g with ⟨kvs,k,e,_,_⟩ | ⟨kvs,k,b,e,_,_,_⟩
 ·obtain ⟨_,_,vs,_,dd⟩:=JK I.hok e
  exact dd.typeIs
 ·obtain ⟨_,_,xs,_,dd⟩:=Va I.hok e
  exact dd.typeIs
def qgb (td ty tv:TE):TS:=fun D σ H=>tv σ H fun v H1=>td σ H1 fun x H2=>ty σ H2 fun y H3=>∃ a H4,x=.ref a/\DPut H3 a y v H4/\D.nx σ H4
variable {pos:Pos}
section
variable {o i e value:Expr} {pos' tpos:Pos} {td ty tv:TE}
theorem qb3 (hu:X.A.units+1 < cLine) (ho:PE X o td) (hi:PE X i ty) (hv:PE X value tv) (hs:swapsWith value (some (.Subscript o i pos')) pos.line X.env=pure false) :
  PS X (.Assign [.Subscript o i pos'] value pos) (qgb td ty tv):=by
 refine ⟨?_⟩
 intro pins s σ H D I h
 refine wpAny_Assign_Subscript (thn (hv pins s σ H _ I h) fun r s1 ⟨v,H1,I1,rv,q1⟩=>thn (ho pins s1 σ H1 _ I1 q1) fun u s2 ⟨x,H2,I2,rx,q2⟩=>thn (hi pins s2 σ H2 _ I2 q2) fun iv s3 ⟨y,H3,I3,ry,a,H4,ex,g,q3⟩=>?_) hs
 subst ex
 obtain rfl:u=bO a:=rx
 exact YG hu I3 g ry rv fun s4 I4=>⟨σ,H4,I4,q3⟩
end
theorem Gx (h:Heap) (hb:sysModules < h.objs.size):ObjOk P w H (h.push { cls:=.type "dict",data:=.dict #[] }) h.objs.size (.dK []):=
 ⟨bq _,beq_eq_false_iff_ne.mpr (aU (aD hb)),[],.nil,fh h⟩
def qd1:TE:=fun _ H Q=>∀ p,H p=none->Q (.ref p) (upd H p (.dK []))
section
theorem Gy:PE X (.Dict [] [] pos) qd1:=⟨fun pins s σ H Q I h=>
 wpAny_Dict_empty ⟨.ref s.heap.objs.size,_,I.laid (a:=s.heap.objs.size) (o:=.dK []) (t':=s.toks) (fun _ _ q=>ae _ q) (aB _) (Gx s.heap I.big),rfl,h _ (I.hok.fresh (aB _))⟩⟩
end
structure M1 (X:Cx) (o:Expr) (m:Str) (apos:Pos) (e:Expr) (cpos:Pos):Prop where
 base:attributeBase o m X.env (eval o X.env)=eval o X.env
 few:((backTo cpos (starEach [e] X.env)).all (fun x=>!x.1)&&(backToKw cpos (keywordEach [] X.env)).all (fun x=>x.1.isSome)
  && decide (([e]:List Expr).length+([]:List Keyword).length+(if ([]:List Keyword).isEmpty then 0 else 1) < 30))=true
 line:(apos.endLine == cpos.line)=true
 trees:backTo cpos (starEach [e] X.env)=[(false,eval e X.env)]
structure M2 (X:Cx) (o:Expr) (m:Str) (apos:Pos) (e f:Expr) (cpos:Pos):Prop where
 base:attributeBase o m X.env (eval o X.env)=eval o X.env
 few:((backTo cpos (starEach [e,f] X.env)).all (fun x=>!x.1)&&(backToKw cpos (keywordEach [] X.env)).all (fun x=>x.1.isSome)
  && decide (([e,f]:List Expr).length+([]:List Keyword).length+(if ([]:List Keyword).isEmpty then 0 else 1) < 30))=true
 line:(apos.endLine == cpos.line)=true
 trees:backTo cpos (starEach [e,f] X.env)=[(false,eval e X.env),(false,eval f X.env)]
def IsD (H:Hp) (a:Addr):Prop:=(∃ kvs,Rd H a (.dK kvs))\/∃ kvs,Rd H a (.dT kvs)
theorem qd2 (I:Inv X pins σ H s) (d:IsD H a) :
  s.TypeIs (.ref a) "dict"/\(∀ b,bO a=.ref b->∃ ob,s.heap.get? b=some ob/\ob.dict=none)/\(a == sysModules)=false:=by
 rcases d with ⟨kvs,e⟩ | ⟨kvs,e⟩
 ·obtain ⟨_,hd,vs,_,dd⟩:=JK I.hok e
  refine ⟨dd.typeIs,fun b q=>?_,hd⟩
  cases q
  obtain ⟨ob,_,_,h1,h2,_⟩:=dd
  exact ⟨ob,h1,h2.2.1⟩
 ·obtain ⟨_,hd,xs,_,dd⟩:=Va I.hok e
  refine ⟨dd.typeIs,fun b q=>?_,hd⟩
  cases q
  obtain ⟨ob,_,_,h1,h2,_⟩:=dd
  exact ⟨ob,h1,h2.2.1⟩
section
variable {r:Value}
theorem qd3 (hu:A.units+1 < cLine) (I:Inv X pins σ H s) (g:DGet H a y o) (ry:RelV y u) (rd:RelV d r) (h:∀ w' s',Inv X pins σ H s'->RelV (o.getD d) w'->Q w' s') :
  wpAny (model X.prog X.w) A (call (.builtin "dict.get") [.ref a,u,r]) Q E s:=by
 rcases g with ⟨kvs,k,e,ey,l⟩ | ⟨kvs,k,b,e,ey,eb,l⟩
 ·subst ey
  obtain ⟨z,hd,vs,rel,dd⟩:=JK I.hok e
  refine call_meetsIn dX dd.typeIs PySem.F.entry_dict_get (PySem.F.args_dict_get_3 _ _ _) (meets_dict_get_default (qQ X.prog X.w) a (Ut ry) hd r) ⟨_,dd.mapOf,h _ _ (I.tok _) ?_⟩
  rw [l]
  exact (rel.val k).getD rd
 ·subst ey
  cases (show u=bO b from ry)
  obtain ⟨z,hd,xs,rel,dd⟩:=Va I.hok e
  refine call_meetsIn dX dd.typeIs PySem.F.entry_dict_get (PySem.F.args_dict_get_3 _ _ _) (meetsH_dict_get_default (tupleKind (qQ X.prog X.w)) a b hd r) ⟨tupleKind_room_in1 hu,k,xs,xw I.hok eb,dd,h _ _ (I.tok _) ?_⟩
  rw [l]
  exact (rel.val k).getD rd
end
def qd4 (td ty tx:TE):TE:=fun σ H Q=>td σ H fun x H1=>∃ a,x=.ref a/\IsD H1 a/\ty σ H1 fun y H2=>tx σ H2 fun z H3=>∃ o,DGet H3 a y o/\Q (o.getD z) H3
section
variable {o e f:Expr} {apos cpos:Pos} {td ty tx:TE}
theorem Gz (hu:X.A.units+1 < cLine) (ho:PE X o td) (he:PE X e ty) (hf:PE X f tx) (m:M2 X o "get" apos e f cpos):PE X (.Call (.Attribute o "get" apos) [e,f] [] cpos) (qd4 td ty tx):=by
 refine ⟨?_⟩
 intro pins s σ H Q I h
 refine wpAny_Call_method m.base m.few m.line PySem.F.plainAttrs_dict dX PySem.F.type_dict_get (thn (ho pins s σ H _ I h) fun u s1 ⟨x,H1,I1,rx,a,ex,d,q1⟩=>?_)
 subst ex
 obtain rfl:u=bO a:=rx
 obtain ⟨t1,t2,_⟩:=qd2 I1 d
 refine ⟨t1,t2,?_⟩
 rw [m.trees]
 refine Calls.callWith_builtin rfl (d7 (dG (thn (he pins s1 σ H1 _ I1 q1) fun iv s2 ⟨y,H2,I2,ry,q2⟩=>
  dG (thn (hf pins s2 σ H2 _ I2 q2) fun fv s3 ⟨z,H3,I3,rz,ov,g,q3⟩=>eB ?_))))
 exact qd3 hu I3 g ry rz fun w' s4 I4 rw'=>⟨_,H3,I4,rw',q3⟩
end
section
theorem YH:wH X (.builtin "len") (fun xs H Q=>∃ a kvs,xs=[V.ref a]/\H a=some (.dK kvs)/\Q (.int kvs.length) H):=by
 intro pins s σ H xs us Q I r h
 obtain ⟨a,kvs,rfl,ha,q⟩:=h
 obtain ⟨u,rfl,ru⟩:=uB r
 cases ru
 exact qga I (.inl ha) fun t s' I'=>⟨.int kvs.length,H,I',⟨t,rfl⟩,q⟩
end
end L2
namespace L2.D2
open PySem PySem.Spec PyProof.Rows
variable {b:List Nat}
theorem wK {a:List Nat} (h:(a.all fun i=>decide (i∈b))=true):∀ i∈a,i∈b:=fun i hi=>of_decide_eq_true (ba.mp h i hi)
theorem Wg {i:Nat} (h:decide (i∈b)=false):i∉b:=of_decide_eq_false h
noncomputable def YI:Expr->Bool
 | .Starred ..=>false
 | _=>true
variable {e:Expr} {env:Env}
theorem jU {es:List Expr} (h:YI e=true):starEach (e::es) env=(false,eval e env)::starEach es env:=by cases e <;> first | rfl | cases h
theorem qV (h:YI e=true):starEach [e] env=[(false,eval e env)]:=jU h
variable {pos:Pos}
theorem yf:∀ {es:List Expr},es.all YI=true->(backTo pos (starEach es env)).any (·.1)=false
 | [],_=>rfl
 | e::es,h=>by
  rw [fA,aR] at h
  rw [jU h.1]
  exact yf h.2
theorem vU (h:YI e=true):((backTo pos (starEach [e] env)).all (fun x=>!x.1)&&(backToKw pos (keywordEach [] env)).all (fun x=>x.1.isSome)
   && decide ([e].length+([]:List Keyword).length+(if ([]:List Keyword).isEmpty then 0 else 1) < 30))=true:=by rw [qV h]; rfl
inductive D where
 | non | bl (b:Bool) | int (i:Int) | str (x:Str)
 | tup (xs:List D) | lst (xs:List D) | dct (kvs:List (Key×D)) | raw (v:V)
 | xcp (C:Addr) | ins (C:Addr) (fs:List (Str×D)) | at_ (a:Addr) (xs:List D)
 deriving Inhabited
abbrev Sl:=List (Option D)
inductive Out (α:Type) where
 | ok (a:α) | exc (c:Str) (o:Sl) | bad
variable {α β:Type}
noncomputable def Out.bind (o:Out α) (k:α->Out β):Out β:=match o with
 | .ok a=>k a
 | .exc c o=>.exc c o
 | .bad=>.bad
@[simp] theorem Out.ok_bind (a:α) (k:α->Out β):(Out.ok a).bind k=k a:=rfl
@[simp] theorem Out.exc_bind (c:Str) (o:Sl) (k:α->Out β):(Out.exc c o:Out α).bind k=.exc c o:=rfl
@[simp] theorem Out.bad_bind (k:α->Out β):(Out.bad:Out α).bind k=.bad:=rfl
noncomputable def Vc (a C:Addr):HO:=.ext fun h=>∃ oe vs,h.get? a=some oe/\oe.cls=.ref C/\oe.data=.fields vs
mutual
/-- the value v is the data d,all its objects in F -/
inductive Is (K:Frag) (F:Hp):V->D->Prop
 | non:Is K F .non .non
 | bl (b:Bool):Is K F (.bl b) (.bl b)
 | int (i:Int):Is K F (.int i) (.int i)
 | str {x:Str} (h:x.length<=sizeLine):Is K F (.str x) (.str x)
 | tup {a:Addr} {xs:List V} {ds:List D} (h:SqT K F a xs) (t:IsL K F xs ds):Is K F (.ref a) (.tup ds)
 | lst {a:Addr} {xs:List V} {ds:List D} (h:SqL K F a xs) (t:IsL K F xs ds):Is K F (.ref a) (.lst ds)
 | dct {a:Addr} {kv:List (Key×V)} {kvs:List (Key×D)} (h:F a=some (.dK kv)) (t:IsK K F kv kvs):Is K F (.ref a) (.dct kvs)
 | raw (v:V):Is K F v (.raw v)
 | xcp {a C:Addr} (h:F a=some (Vc a C)):Is K F (.ref a) (.xcp C)
 | ins {a C dx:Addr} {fv:List (Str×V)} {fs:List (Str×D)} (h:F a=some (.ins C dx fv)) (t:IsF K F fv fs):Is K F (.ref a) (.ins C fs)
 | at_ {a:Addr} {xs:List V} {ds:List D} (h:SqL K F a xs) (t:IsL K F xs ds):Is K F (.ref a) (.at_ a ds)
inductive IsL (K:Frag) (F:Hp):List V->List D->Prop
 | nil:IsL K F [] []
 | cons {v:V} {d:D} {vs:List V} {ds:List D} (h:Is K F v d) (t:IsL K F vs ds):IsL K F (v::vs) (d::ds)
inductive IsK (K:Frag) (F:Hp):List (Key×V)->List (Key×D)->Prop
 | nil:IsK K F [] []
 | cons {k:Key} {v:V} {d:D} {vs:List (Key×V)} {ds:List (Key×D)} (h:Is K F v d) (t:IsK K F vs ds):IsK K F ((k,v)::vs) ((k,d)::ds)
inductive IsF (K:Frag) (F:Hp):List (Str×V)->List (Str×D)->Prop
 | nil:IsF K F [] []
 | cons {k:Str} {v:V} {d:D} {vs:List (Str×V)} {ds:List (Str×D)} (h:Is K F v d) (t:IsF K F vs ds):IsF K F ((k,v)::vs) ((k,d)::ds)
end
theorem qM {K:Frag} {H H':Hp} {a:Addr} {xs:List V} (e:Same H H') (h:SqT K H a xs):SqT K H' a xs:=by
 rcases h with (h | ⟨o,h⟩) | h
 ·exact .inl (.inl (e _ _ h))
 ·exact .inl (.inr ⟨o,e _ _ h⟩)
 ·exact .inr h
mutual
theorem Is.mono {K:Frag} {F F':Hp} (e:Same F F'):∀ {v:V} {d:D},Is K F v d->Is K F' v d
 | _,_,.non=>.non
 | _,_,.bl b=>.bl b
 | _,_,.int i=>.int i
 | _,_,.str h=>.str h
 | _,_,.tup h t=>.tup (qM e h) (IsL.mono e t)
 | _,_,.lst h t=>.lst (e.seq h) (IsL.mono e t)
 | _,_,.dct h t=>.dct (e _ _ h) (IsK.mono e t)
 | _,_,.raw v=>.raw v
 | _,_,.xcp h=>.xcp (e _ _ h)
 | _,_,.ins h t=>.ins (e _ _ h) (IsF.mono e t)
 | _,_,.at_ h t=>.at_ (e.seq h) (IsL.mono e t)
theorem IsL.mono {K:Frag} {F F':Hp} (e:Same F F'):∀ {vs:List V} {ds:List D},IsL K F vs ds->IsL K F' vs ds
 | _,_,.nil=>.nil
 | _,_,.cons h t=>.cons (Is.mono e h) (IsL.mono e t)
theorem IsK.mono {K:Frag} {F F':Hp} (e:Same F F'):∀ {vs:List (Key×V)} {ds:List (Key×D)},IsK K F vs ds->IsK K F' vs ds
 | _,_,.nil=>.nil
 | _,_,.cons h t=>.cons (Is.mono e h) (IsK.mono e t)
theorem IsF.mono {K:Frag} {F F':Hp} (e:Same F F'):∀ {vs:List (Str×V)} {ds:List (Str×D)},IsF K F vs ds->IsF K F' vs ds
 | _,_,.nil=>.nil
 | _,_,.cons h t=>.cons (Is.mono e h) (IsF.mono e t)
end
theorem IsL.length {K:Frag} {F:Hp}:∀ {vs:List V} {ds:List D},IsL K F vs ds->vs.length=ds.length
 | _,_,.nil=>rfl
 | _,_,.cons _ t=>congrArg (·+1) (IsL.length t)
theorem IsL.get {K:Frag} {F:Hp}:∀ {vs:List V} {ds:List D} {i:Nat} {v:V},IsL K F vs ds->vs[i]?=some v->∃ d,ds[i]?=some d/\Is K F v d
 | _,_,_,_,.nil,e=>by simp at e
 | _,_,0,_,.cons h _,e=>by simp at e; subst e; exact ⟨_,rfl,h⟩
 | _,_,i+1,v,.cons _ t,e=>by
  obtain ⟨d,h1,h2⟩:=IsL.get (i:=i) (v:=v) t (by simpa using e)
  exact ⟨d,by simpa using h1,h2⟩
theorem IsL.getD {K:Frag} {F:Hp}:∀ {vs:List V} {ds:List D} {i:Nat} {d:D},IsL K F vs ds->ds[i]?=some d->∃ v,vs[i]?=some v/\Is K F v d
 | _,_,_,_,.nil,e=>by simp at e
 | _,_,0,_,.cons h _,e=>by simp at e; subst e; exact ⟨_,rfl,h⟩
 | _,_,i+1,v,.cons _ t,e=>by
  obtain ⟨d,h1,h2⟩:=IsL.getD (i:=i) (d:=v) t (by simpa using e)
  exact ⟨d,by simpa using h1,h2⟩
theorem IsL.append {K:Frag} {F:Hp}:∀ {vs ws:List V} {ds es:List D},IsL K F vs ds->IsL K F ws es->IsL K F (vs++ws) (ds++es)
 | _,_,_,_,.nil,s=>s
 | _,_,_,_,.cons h t,s=>.cons h (IsL.append t s)
theorem IsL.take {K:Frag} {F:Hp}:∀ {vs:List V} {ds:List D} (n:Nat),IsL K F vs ds->IsL K F (vs.take n) (ds.take n)
 | _,_,0,_=>.nil
 | _,_,_+1,.nil=>.nil
 | _,_,n+1,.cons h t=>.cons h (IsL.take n t)
theorem IsL.set {K:Frag} {F:Hp} {v:V} {d:D} (h:Is K F v d):∀ {vs:List V} {ds:List D} (i:Nat),IsL K F vs ds->IsL K F (vs.set i v) (ds.set i d)
 | _,_,_,.nil=>.nil
 | _,_,0,.cons _ t=>.cons h t
 | _,_,i+1,.cons q t=>.cons q (IsL.set h i t)
def OwnIs (K:Frag) (F H:Hp) (a:Addr):D->Prop
 | .lst ds=>∃ xs,H a=some (.lst xs)/\IsL K F xs ds
 | .dct kvs=>∃ kv,H a=some (.dK kv)/\IsK K F kv kvs
 | .ins C fs=>∃ dx fv,H a=some (.ins C dx fv)/\IsF K F fv fs
 | .at_ b ds=>b=a/\∃ xs,H a=some (.lst xs)/\IsL K F xs ds
 | _=>False
def TopIs (K:Frag) (F H:Hp) (v:V) (d:D):Prop:=Is K F v d\/∃ a,v=.ref a/\OwnIs K F H a d
inductive Mo where
 | sh | fr | any
def MoIs (K:Frag) (m:Mo) (H0 F H:Hp) (v:V) (d:D):Prop:=match m with
 | .sh=>Is K F v d
 | .fr=>∃ a,v=.ref a/\H0 a=none/\F a=none/\OwnIs K F H a d
 | .any=>TopIs K F H v d
theorem MoIs.top {K:Frag} {m:Mo} {H0 F H:Hp} {v:V} {d:D} (h:MoIs K m H0 F H v d):TopIs K F H v d:=by
 cases m with
 | sh=>exact .inl h
 | fr=>obtain ⟨a,e,_,_,o⟩:=h; exact .inr ⟨a,e,o⟩
 | any=>exact h
structure Chg (A:Addr->Prop) (F H F' H':Hp):Prop where
 keep:∀ b o,H b=some o->¬A b->H' b=some o
 stay:∀ b,H b≠none->H' b≠none
 grow:Same F F'
 new:∀ b,F' b≠none->F b≠none\/H b=none\/A b
theorem Chg.refl {A:Addr->Prop} {F H:Hp}:Chg A F H F H:=⟨fun _ _ e _=>e,fun _ h=>h,Same.refl _,fun _ h=>.inl h⟩
theorem Chg.trans {A A1:Addr->Prop} {F H F1 H1 F2 H2:Hp} (a:Chg A F H F1 H1) (b:Chg A1 F1 H1 F2 H2) (hA:∀ x,A1 x->A x\/H x=none):Chg A F H F2 H2 where
 keep:=fun x o e n=>b.keep x o (a.keep x o e n) fun z=>(hA x z).elim n fun q=>by rw [e] at q; cases q
 stay:=fun x h=>b.stay x (a.stay x h)
 grow:=a.grow.trans b.grow
 new:=fun x h=>by
  rcases b.new x h with q | q | q
  ·exact a.new x q
  ·refine .inr (.inl ?_)
   cases e:H x with
   | none=>rfl
   | some o=>exact absurd q (a.stay x (by rw [e]; simp))
  ·rcases hA x q with z | z
   ·exact .inr (.inr z)
   ·exact .inr (.inl z)
theorem Chg.trans' {A:Addr->Prop} {F H F1 H1 F2 H2:Hp} (a:Chg A F H F1 H1) (b:Chg A F1 H1 F2 H2):Chg A F H F2 H2:=a.trans b fun _ z=>.inl z
theorem Chg.mono {A A':Addr->Prop} {F H F1 H1:Hp} (a:Chg A F H F1 H1) (h:∀ x,A x->A' x):Chg A' F H F1 H1:=
 ⟨fun b o e n=>a.keep b o e fun z=>n (h b z),a.stay,a.grow,fun b z=>(a.new b z).imp id (Or.imp id (h b))⟩
abbrev No:Addr->Prop:=fun _=>False
theorem Chg.ofNo {A:Addr->Prop} {F H F1 H1:Hp} (a:Chg No F H F1 H1):Chg A F H F1 H1:=a.mono fun _ z=>z.elim
structure Rep (K:Frag) (own:List Nat) (F H:Hp) (σ:St) (ρ:Sl):Prop where
 sub:Same F H
 len:σ.length=ρ.length
 val:∀ i d,i∉own->ρ[i]?=some (some d)->∃ v,σ[i]?=some (some v)/\Is K F v d
 ow:∀ i d,i∈own->ρ[i]?=some (some d)->∃ a,σ[i]?=some (some (.ref a))/\F a=none/\OwnIs K F H a d
 opn:∀ i,i∈own->∃ d,ρ[i]?=some (some d)
 dis:∀ i j a,i∈own->j∈own->σ[i]?=some (some (V.ref a))->σ[j]?=some (some (V.ref a))->i=j
def OA (own:List Nat) (σ:St):Addr->Prop:=fun b=>∃ i∈own,σ[i]?=some (some (V.ref b))
theorem OwnIs.there {K:Frag} {F H:Hp} {a:Addr} {d:D} (h:OwnIs K F H a d):H a≠none:=by
 cases d with
 | lst ds=>obtain ⟨xs,e,_⟩:=h; rw [e]; simp
 | dct ds=>obtain ⟨xs,e,_⟩:=h; rw [e]; simp
 | ins C fs=>obtain ⟨dx,xs,e,_⟩:=h; rw [e]; simp
 | at_ b ds=>obtain ⟨_,xs,e,_⟩:=h; rw [e]; simp
 | _=>exact h.elim
theorem OwnIs.grow {K:Frag} {F H F' H':Hp} {a:Addr} {d:D} (h:OwnIs K F H a d) (g:Same F F') (k:∀ o,H a=some o->H' a=some o):OwnIs K F' H' a d:=by
 cases d with
 | lst ds=>obtain ⟨xs,e,t⟩:=h; exact ⟨xs,k _ e,t.mono g⟩
 | dct ds=>obtain ⟨xs,e,t⟩:=h; exact ⟨xs,k _ e,t.mono g⟩
 | ins C fs=>obtain ⟨dx,xs,e,t⟩:=h; exact ⟨dx,xs,k _ e,t.mono g⟩
 | at_ b ds=>obtain ⟨eb,xs,e,t⟩:=h; exact ⟨eb,xs,k _ e,t.mono g⟩
 | _=>exact h.elim
theorem Rep.OA_there {K:Frag} {own:List Nat} {F H:Hp} {σ:St} {ρ:Sl} (r:Rep K own F H σ ρ) {b:Addr} (h:OA own σ b):H b≠none/\F b=none:=by
 obtain ⟨i,hi,e⟩:=h
 obtain ⟨d,hd⟩:=r.opn i hi
 obtain ⟨a,e1,e2,o⟩:=r.ow i d hi hd
 rw [e] at e1
 cases e1
 exact ⟨o.there,e2⟩
theorem Rep.grow {K:Frag} {own:List Nat} {F H F' H':Hp} {σ:St} {ρ:Sl} (r:Rep K own F H σ ρ) (c:Chg No F H F' H') (s:Same F' H'):Rep K own F' H' σ ρ where
 sub:=s
 len:=r.len
 val:=fun i d hi e=>let ⟨v,h1,h2⟩:=r.val i d hi e; ⟨v,h1,h2.mono c.grow⟩
 ow:=fun i d hi e=>by
  obtain ⟨a,h1,h2,h3⟩:=r.ow i d hi e
  refine ⟨a,h1,?_,h3.grow c.grow fun o q=>c.keep a o q fun z=>z⟩
  cases q:F' a with
  | none=>rfl
  | some o=>
   rcases c.new a (by rw [q]; simp) with z | z | z
   ·exact absurd h2 z
   ·exact absurd z h3.there
   ·exact z.elim
 opn:=r.opn
 dis:=r.dis
theorem MoIs.grow {K:Frag} {A:Addr->Prop} {m:Mo} {H0 F H F' H':Hp} {v:V} {d:D} (h:MoIs K m H0 F H v d) (hm:m≠.any) (c:Chg A F H F' H') (hA:∀ x,A x->H0 x≠none):MoIs K m H0 F' H' v d:=by
 cases m with
 | sh=>exact Is.mono c.grow h
 | fr=>
  obtain ⟨a,e,h0,hF,o⟩:=h
  have nA:¬A a:=fun z=>hA a z h0
  refine ⟨a,e,h0,?_,o.grow c.grow fun o q=>c.keep a o q nA⟩
  cases q:F' a with
  | none=>rfl
  | some u=>
   rcases c.new a (by rw [q]; simp) with z | z | z
   ·exact absurd hF z
   ·exact absurd z o.there
   ·exact absurd z nA
 | any=>exact absurd rfl hm
def YJ (K:Frag) (io:List Nat) (F H:Hp) (σ:St) (ρ:Sl):Prop:=∀ i∈io,∃ d a,ρ[i]?=some (some d)/\σ[i]?=some (some (V.ref a))/\F a=none/\OwnIs K F H a d
theorem Rep.ioIs {K:Frag} {own io:List Nat} {F H:Hp} {σ:St} {ρ:Sl} (r:Rep K own F H σ ρ) (h:∀ i∈io,i∈own):YJ K io F H σ ρ:=fun i hi=>by
 obtain ⟨d,hd⟩:=r.opn i (h i hi)
 obtain ⟨a,h1,h2,h3⟩:=r.ow i d (h i hi) hd
 exact ⟨d,a,hd,h1,h2,h3⟩
structure Ct where
 K:Frag
 cv:Str->Value
 E:XK
 io:List Nat
 mr:Mo
 ol:List Nat
 ox:List Nat
 oxs:∀ i∈ox,i∈io
def Po (C:Ct) (own:List Nat) (m:Mo) (σ:St) (F H:Hp) (r:Out (D×Sl)) (Q:VK):Prop:=match r with
 | .ok (d,ρ')=>∀ v F' H',Rep C.K own F' H' σ ρ'->Chg (OA own σ) F H F' H'->MoIs C.K m H F' H' v d->Q v H'
 | .exc c ρ'=>∀ F' H',Same F' H'->YJ C.K C.ox F' H' σ ρ'->Chg (OA own σ) F H F' H'->C.E (C.cv c) none H'
 | .bad=>False
def tE (C:Ct) (own:List Nat) (m:Mo) (f:Sl->Out (D×Sl)):TE:=fun σ H Q=>∃ F ρ,Rep C.K own F H σ ρ/\Po C own m σ F H (f ρ) Q
theorem MoIs.back {K:Frag} {m:Mo} {A:Addr->Prop} {H0 F H F1 H1:Hp} {Fa Ha:Hp} {v:V} {d:D} (c:Chg A Fa H0 F1 H1) (h:MoIs K m H1 F H v d):MoIs K m H0 F H v d:=by
 cases m with
 | sh=>exact h
 | fr=>
  obtain ⟨a,e,h0,r⟩:=h
  refine ⟨a,e,?_,r⟩
  cases q:H0 a with
  | none=>rfl
  | some o=>exact absurd h0 (c.stay a (by rw [q]; simp))
 | any=>exact h
theorem Po.shift {C:Ct} {own:List Nat} {m:Mo} {σ:St} {F H F1 H1:Hp} {r:Out (D×Sl)} {Q:VK} (h:Po C own m σ F H r Q) (c:Chg (OA own σ) F H F1 H1):Po C own m σ F1 H1 r Q:=by
 cases r with
 | ok p=>exact fun v F' H' rp c' mo=>h v F' H' rp (c.trans' c') (MoIs.back (Ha:=H1) c mo)
 | exc x=>exact fun F' H' s io c'=>h F' H' s io (c.trans' c')
 | bad=>exact h.elim
theorem Po.bind {C:Ct} {own:List Nat} {m ma:Mo} {σ:St} {F H:Hp} {o:Out (D×Sl)} {k:D×Sl->Out (D×Sl)} {Q R:VK} (hp:Po C own m σ F H (o.bind k) Q)
  (h:∀ v F1 H1 d ρ1,Rep C.K own F1 H1 σ ρ1->Chg (OA own σ) F H F1 H1->MoIs C.K ma H F1 H1 v d->Po C own m σ F1 H1 (k (d,ρ1)) Q->R v H1):Po C own ma σ F H o R:=by
 cases o with
 | ok p=>
  obtain ⟨d,ρ1⟩:=p
  exact fun v F1 H1 rp c mo=>h v F1 H1 d ρ1 rp c mo (Po.shift (show Po C own m σ F H (k (d,ρ1)) Q from hp) c)
 | exc x=>exact hp
 | bad=>exact hp.elim
def PoV (C:Ct) (m:Mo) (F H:Hp) (r:Out D) (Q:VK):Prop:=match r with
 | .ok d=>∀ v F' H',Same F' H'->Chg No F H F' H'->MoIs C.K m H F' H' v d->Q v H'
 | _=>False
def OpD (X:Cx) (C:Ct) (m:Mo) (f:Value->Value->Sem Value) (g:D->D->Out D):Prop:=
 OpR X f (fun x y H Q=>∃ F dx dy,Same F H/\TopIs C.K F H x dx/\TopIs C.K F H y dy/\PoV C m F H (g dx dy) Q)
def UnD (X:Cx) (C:Ct) (m:Mo) (f:Value->Sem Value) (g:D->Out D):Prop:=
 UnR X f (fun x H Q=>∃ F dx,Same F H/\TopIs C.K F H x dx/\PoV C m F H (g dx) Q)
noncomputable def Out.plain {α:Type}:Out α->Out α
 | .ok a=>.ok a
 | _=>.bad
theorem PoV.of {C:Ct} {own:List Nat} {m:Mo} {σ:St} {F H:Hp} {o:Out D} {ρ:Sl} {Q:VK} (rp:Rep C.K own F H σ ρ) (h:Po C own m σ F H (o.plain.bind fun d=>.ok (d,ρ)) Q):PoV C m F H o Q:=by
 cases o with
 | ok d=>exact fun v F' H' s c mo=>h v F' H' (rp.grow c s) c.ofNo mo
 | exc c=>exact h.elim
 | bad=>exact h.elim
noncomputable def d2 (g:D->D->Out D) (fa fb:Sl->Out (D×Sl)):Sl->Out (D×Sl):=fun ρ=>(fa ρ).bind fun p=>(fb p.2).bind fun q=>(g p.1 q.1).plain.bind fun d=>.ok (d,q.2)
noncomputable def d1 (g:D->Out D) (fa:Sl->Out (D×Sl)):Sl->Out (D×Sl):=fun ρ=>(fa ρ).bind fun p=>(g p.1).plain.bind fun d=>.ok (d,p.2)
section
variable {X:Cx} {C:Ct} {own:List Nat} {a b:Expr} {fa fb:Sl->Out (D×Sl)} {m ma mb:Mo} {pos:Pos}
theorem JL {g:D->D->Out D} {σ:St} {H:Hp} {Q:VK} (hma:ma≠.any) (h:tE C own m (d2 g fa fb) σ H Q) :
  tE C own ma fa σ H fun x H1=>tE C own mb fb σ H1 fun y H2=>∃ F dx dy,Same F H2/\TopIs C.K F H2 x dx/\TopIs C.K F H2 y dy/\PoV C m F H2 (g dx dy) Q:=by
 obtain ⟨F,ρ,rp,h⟩:=h
 refine ⟨F,ρ,rp,Po.bind h fun v F1 H1 d ρ1 rp1 c1 mo1 h1=>⟨F1,ρ1,rp1,Po.bind h1 fun w F2 H2 e ρ2 rp2 c2 mo2 h2=>?_⟩⟩
 exact ⟨F2,d,e,rp2.sub,(mo1.grow hma c2 fun x z=>(rp.OA_there z).1).top,mo2.top,PoV.of rp2 h2⟩
theorem Vd {g:D->Out D} {σ:St} {H:Hp} {Q:VK} (h:tE C own m (d1 g fa) σ H Q) :
  tE C own ma fa σ H fun x H1=>∃ F dx,Same F H1/\TopIs C.K F H1 x dx/\PoV C m F H1 (g dx) Q:=by
 obtain ⟨F,ρ,rp,h⟩:=h
 refine ⟨F,ρ,rp,Po.bind h fun v F1 H1 d ρ1 rp1 c1 mo1 h1=>?_⟩
 exact ⟨F1,d,rp1.sub,mo1.top,PoV.of rp1 h1⟩
theorem jG {e:Expr} {t t':TE} (h:PE X e t) (i:∀ σ H Q,t' σ H Q->t σ H Q):PE X e t':=⟨fun pins s σ H Q I hw=>h pins s σ H Q I (i σ H Q hw)⟩
theorem GA {e:Expr} {t t':TT} (h:PT X e t) (i:∀ σ H Q,t' σ H Q->t σ H Q):PT X e t':=⟨fun pins s σ H Q I hw=>h pins s σ H Q I (i σ H Q hw)⟩
theorem qT {op:Operator} {g:D->D->Out D} (ho:OpD X C m (binaryOp op) g) (ha:PE X a (tE C own ma fa)) (hb:PE X b (tE C own mb fb)) (hma:ma≠.any:=by decide):PE X (.BinOp a op b pos) (tE C own m (d2 g fa fb)):=
 jG (qfW ho ha hb) fun _ _ _ h=>JL hma h
theorem zu {op:CmpOp} {g:D->D->Out D} (ho:OpD X C m (compareOp op) g) (ha:PE X a (tE C own ma fa)) (hb:PE X b (tE C own mb fb)) (hma:ma≠.any:=by decide)
  (hk:behindInMarks op b=false:=by first | exact qbb _ | with_unfolding_all rfl):PE X (.Compare a [op] [b] pos) (tE C own m (d2 g fa fb)):=
 jG (qbV ho ha hb hk) fun _ _ _ h=>JL hma h
theorem GB {op:UnaryOp} {g:D->Out D} (ho:UnD X C m (unaryOp op) g) (ha:PE X a (tE C own ma fa)):PE X (.UnaryOp op a pos) (tE C own m (d1 g fa)):=
 jG (qfX ho ha) fun _ _ _ h=>Vd h
end
instance:DecidableEq Mo:=fun a b=>by cases a <;> cases b <;> first | exact isTrue rfl | exact isFalse (by intro h; cases h)
theorem GC {K:Frag} {own:List Nat} {H0 F H:Hp} {σ:St} {ρ:Sl} {v:V} {d:D} (rp:Rep K own F H σ ρ) (hA:∀ b,OA own σ b->H0 b≠none) (h:MoIs K .fr H0 F H v d) :
  ∃ F',Rep K own F' H σ ρ/\Same F F'/\Is K F' v d/\∀ b,F' b≠none->F b≠none\/H0 b=none:=by
 obtain ⟨a,rfl,h0,hF,o⟩:=h
 obtain ⟨u,hu⟩:∃ u,H a=some u:=by
  cases q:H a with
  | none=>exact absurd q o.there
  | some u=>exact ⟨u,rfl⟩
 have gr:Same F (upd F a u):=fun b w e=>by rw [qB (qI e hF)]; exact e
 have sb:Same (upd F a u) H:=fun b w e=>by
  by_cases q:b=a
  ·subst q; rw [qr] at e; cases e; exact hu
  ·rw [qB q] at e; exact rp.sub b w e
 refine ⟨upd F a u,⟨sb,rp.len,fun i d hi e=>?_,fun i d hi e=>?_,rp.opn,rp.dis⟩,gr,?_,fun b hb=>?_⟩
 ·obtain ⟨v,h1,h2⟩:=rp.val i d hi e
  exact ⟨v,h1,h2.mono gr⟩
 ·obtain ⟨c,h1,h2,h3⟩:=rp.ow i d hi e
  refine ⟨c,h1,?_,h3.grow gr fun _ q=>q⟩
  have nc:c≠a:=fun q=>by subst q; exact hA c ⟨i,hi,h1⟩ h0
  rw [qB nc]; exact h2
 ·cases d with
  | lst ds=>obtain ⟨xs,e,t⟩:=o; rw [hu] at e; cases e; exact .lst (.inl (.inl qr)) (t.mono gr)
  | dct ds=>obtain ⟨xs,e,t⟩:=o; rw [hu] at e; cases e; exact .dct qr (t.mono gr)
  | ins C fs=>obtain ⟨dx,xs,e,t⟩:=o; rw [hu] at e; cases e; exact .ins qr (t.mono gr)
  | at_ b ds=>obtain ⟨eb,xs,e,t⟩:=o; rw [hu] at e; cases e; subst eb; exact .at_ (.inl (.inl qr)) (t.mono gr)
  | _=>exact o.elim
 ·by_cases q:b=a
  ·exact .inr (by rw [q]; exact h0)
  ·rw [qB q] at hb; exact .inl hb
theorem Po.toSh {C:Ct} {own:List Nat} {m:Mo} {σ:St} {F H:Hp} {ρ0:Sl} {r:Out (D×Sl)} {Q:VK} (rp:Rep C.K own F H σ ρ0) (hm:m≠.any) (h:Po C own .sh σ F H r Q):Po C own m σ F H r Q:=by
 cases r with
 | ok p=>
  intro v F' H' rp' c mo
  cases m with
  | sh=>exact h v F' H' rp' c mo
  | fr=>
   obtain ⟨F2,rp2,gr,is,nw⟩:=GC rp' (fun b z=>(rp.OA_there z).1) mo
   refine h v F2 H' rp2 ⟨c.keep,c.stay,c.grow.trans gr,fun b hb=>?_⟩ is
   rcases nw b hb with z | z
   ·exact c.new b z
   ·exact .inr (.inl z)
  | any=>exact absurd rfl hm
 | exc x=>exact h
 | bad=>exact h.elim
section
variable {X:Cx} {C:Ct} {own:List Nat} {a b e:Expr} {f fa fb:Sl->Out (D×Sl)} {m ma mb:Mo} {pos:Pos}
theorem uM (h:PE X e (tE C own m f)) (hm:m≠.any):PE X e (tE C own .sh f):=jG h fun _ _ _ ⟨F,ρ,rp,p⟩=>⟨F,ρ,rp,p.toSh rp hm⟩
noncomputable def qe (i:Nat):Sl->Out (D×Sl):=fun ρ=>match ρ[i]? with
 | some (some d)=>.ok (d,ρ)
 | _=>.bad
noncomputable def dC (d:D):Sl->Out (D×Sl):=fun ρ=>.ok (d,ρ)
theorem qd5 {i:Nat} {x:Str} (hN:X.N[i]?=some x) (hv:Vis X.env.scope x) (ho:i∉own) (hd:(x == ("__debug__":Str))=false:=by decide) (hcd:(x == ("__classdict__":Str))=false:=by decide):PE X (.Name x pos) (tE C own .sh (qe i)):=by
 refine jG (uD hN hv hd hcd) fun σ H Q ⟨F,ρ,rp,h⟩=>?_
 unfold qe at h
 cases e:ρ[i]? with
 | none=>rw [e] at h; exact h.elim
 | some o=>
  cases o with
  | none=>rw [e] at h; exact h.elim
  | some d=>
   rw [e] at h
   obtain ⟨v,h1,h2⟩:=rp.val i d ho e
   exact ⟨v,h1,h v F H rp .refl h2⟩
theorem kC {i:Nat} {x:Str} (hN:X.N[i]?=some x) (hv:Vis X.env.scope x) (ho:i∈own) (hd:(x == ("__debug__":Str))=false:=by decide) (hcd:(x == ("__classdict__":Str))=false:=by decide):PE X (.Name x pos) (tE C own .any (qe i)):=by
 refine jG (uD hN hv hd hcd) fun σ H Q ⟨F,ρ,rp,h⟩=>?_
 unfold qe at h
 cases e:ρ[i]? with
 | none=>rw [e] at h; exact h.elim
 | some o=>
  cases o with
  | none=>rw [e] at h; exact h.elim
  | some d=>
   rw [e] at h
   obtain ⟨a,h1,h2,h3⟩:=rp.ow i d ho e
   exact ⟨_,h1,h _ F H rp .refl (.inr ⟨a,rfl,h3⟩)⟩
theorem qd6 {v:V} {d:D} (h:PE X e (tC v)) (i:∀ F,Is C.K F v d):PE X e (tE C own .sh (dC d)):=jG h fun σ H Q ⟨F,ρ,rp,h⟩=>h v F H rp .refl (i F)
theorem qt {i j pos}:PE X (.Constant (.int i) j pos) (tE C own .sh (dC (.int i))):=qd6 qa6 fun _=>.int i
theorem JM {i j pos}:PE X (.Constant (.bool i) j pos) (tE C own .sh (dC (.bl i))):=qd6 qbM fun _=>.bl i
theorem Wh {j pos}:PE X (.Constant .none j pos) (tE C own .sh (dC .non)):=qd6 qdz fun _=>.non
theorem vF {x j pos} (h:fF x<=sizeLine:=by decide):PE X (.Constant (.str x) j pos) (tE C own .sh (dC (.str x))):=qd6 qa7 fun _=>.str h
theorem qb4 {x:Str} {v:V} {d:D} {u:Value} (hg:Gl X x) (hm:X.mg x=some u) (r:RelV v u) (i:∀ F,Is C.K F v d) (hd:(x == ("__debug__":Str))=false:=by decide):PE X (.Name x pos) (tE C own .sh (dC d)):=qd6 (Yk hg hm r hd) i
noncomputable def vV (g:Int->Int->Out D):D->D->Out D
 | .int i,.int j=>g i j
 | _,_=>.bad
theorem TopIs.int {K:Frag} {F H:Hp} {v:V} {i:Int} (h:TopIs K F H v (.int i)):v=.int i:=by
 rcases h with h | ⟨a,_,h⟩
 ·cases h; rfl
 ·exact h.elim
theorem TopIs.str {K:Frag} {F H:Hp} {v:V} {x:Str} (h:TopIs K F H v (.str x)):v=.str x/\x.length<=sizeLine:=by
 rcases h with h | ⟨a,_,h⟩
 ·cases h; exact ⟨rfl,by assumption⟩
 ·exact h.elim
theorem TopIs.bl {K:Frag} {F H:Hp} {v:V} {x:Bool} (h:TopIs K F H v (.bl x)):v=.bl x:=by
 rcases h with h | ⟨a,_,h⟩
 ·cases h; rfl
 ·exact h.elim
theorem TopIs.non {K:Frag} {F H:Hp} {v:V} (h:TopIs K F H v .non):v=.non:=by
 rcases h with h | ⟨a,_,h⟩
 ·cases h; rfl
 ·exact h.elim
theorem TopIs.raw {K:Frag} {F H:Hp} {v u:V} (h:TopIs K F H v (.raw u)):v=u:=by
 rcases h with h | ⟨a,_,h⟩
 ·cases h; rfl
 ·exact h.elim
theorem TopIs.lst {K:Frag} {F H:Hp} {v:V} {ds:List D} (s:Same F H) (h:TopIs K F H v (.lst ds)):∃ a xs,v=.ref a/\SqL K H a xs/\IsL K F xs ds:=by
 rcases h with h | ⟨a,e,h⟩
 ·cases h with
  | lst h t=>exact ⟨_,_,rfl,s.seq h,t⟩
 ·obtain ⟨xs,e2,t⟩:=h
  exact ⟨a,xs,e,.inl (.inl e2),t⟩
theorem TopIs.tup {K:Frag} {F H:Hp} {v:V} {ds:List D} (s:Same F H) (h:TopIs K F H v (.tup ds)):∃ a xs,v=.ref a/\SqT K H a xs/\IsL K F xs ds:=by
 rcases h with h | ⟨a,e,h⟩
 ·cases h with
  | tup h t=>exact ⟨_,_,rfl,qM s h,t⟩
 ·exact h.elim
theorem TopIs.dct {K:Frag} {F H:Hp} {v:V} {ds:List (Key×D)} (s:Same F H) (h:TopIs K F H v (.dct ds)):∃ a kv,v=.ref a/\H a=some (.dK kv)/\IsK K F kv ds:=by
 rcases h with h | ⟨a,e,h⟩
 ·cases h with
  | dct h t=>exact ⟨_,_,rfl,s _ _ h,t⟩
 ·obtain ⟨xs,e2,t⟩:=h
  exact ⟨a,xs,e,e2,t⟩
theorem Wi {fn:Value->Value->Sem Value} {P:Int->Int->Prop} [∀ i j,Decidable (P i j)] {g:Int->Int->V} {gd:Int->Int->D} (ho:OpR X fn (rI P g)) (hg:∀ F i j,Is C.K F (g i j) (gd i j)) :
  OpD X C .sh fn (vV fun i j=>if P i j then .ok (gd i j) else .bad):=by
 intro pins s σ H x y v u Q I rx ry h
 obtain ⟨F,dx,dy,sb,tx,ty,po⟩:=h
 cases dx <;> try exact po.elim
 cases dy <;> try exact po.elim
 rename_i i j
 have po:PoV C .sh F H (if P i j then .ok (gd i j) else .bad) Q:=po
 obtain rfl:=tx.int
 obtain rfl:=ty.int
 by_cases q:P i j
 ·rw [if_pos q] at po
  exact ho pins s σ H _ _ v u Q I rx ry ⟨i,j,rfl,rfl,q,po (g i j) F H sb .refl (hg F i j)⟩
 ·rw [if_neg q] at po; exact po.elim
theorem Ve {fn:Value->Value->Sem Value} {g:Int->Int->V} {gd:Int->Int->D} (ho:OpR X fn (rI0 g)) (hg:∀ F i j,Is C.K F (g i j) (gd i j)):OpD X C .sh fn (vV fun i j=>.ok (gd i j)):=by
 intro pins s σ H x y v u Q I rx ry h
 obtain ⟨F,dx,dy,sb,tx,ty,po⟩:=h
 cases dx <;> try exact po.elim
 cases dy <;> try exact po.elim
 rename_i i j
 obtain rfl:=tx.int
 obtain rfl:=ty.int
 exact ho pins s σ H _ _ v u Q I rx ry ⟨i,j,rfl,rfl,po (g i j) F H sb .refl (hg F i j)⟩
noncomputable def Qi:D->D->Out D:=vV fun i j=>.ok (.int (i - j))
theorem zv:OpD X C .sh (binaryOp .Sub) Qi:=Ve qdM fun _ _ _=>.int _
instance:∀ i j,Decidable (CMul i j):=fun i j=>inferInstanceAs (Decidable (_\/_))
instance:∀ i j,Decidable (qbS i j):=fun i j=>inferInstanceAs (Decidable (_/\_))
noncomputable def Ye:D->D->Out D:=vV fun i j=>if CMul i j then .ok (.int (i * j)) else .bad
theorem JO:OpD X C .sh (binaryOp .Mult) Ye:=Wi qdN fun _ _ _=>.int _
noncomputable def vW:D->D->Out D:=vV fun i j=>if 0 < j then .ok (.int (i % j)) else .bad
theorem kx:OpD X C .sh (binaryOp .Mod) vW:=Wi qdO fun _ _ _=>.int _
noncomputable def yP:D->D->Out D:=vV fun i j=>if qbS i j then .ok (.int (i / j)) else .bad
theorem zw:OpD X C .sh (binaryOp .FloorDiv) yP:=Wi qbT fun _ _ _=>.int _
noncomputable def uN (x y:Str):Bool:=decide (x.cps.toList < y.cps.toList)
noncomputable def ltD:D->D->Out D
 | .int i,.int j=>.ok (.bl (decide (i < j)))
 | .str x,.str y=>.ok (.bl (uN x y))
 | _,_=>.bad
theorem qgc:OpD X C .sh (compareOp .Lt) ltD:=by
 intro pins s σ H x y v u Q I rx ry h
 obtain ⟨F,dx,dy,sb,tx,ty,po⟩:=h
 cases dx <;> try exact po.elim
 ·cases dy <;> try exact po.elim
  obtain rfl:=tx.int
  obtain rfl:=ty.int
  exact qfY pins s σ H _ _ v u Q I rx ry ⟨_,_,rfl,rfl,po _ F H sb .refl (.bl _)⟩
 ·cases dy <;> try exact po.elim
  obtain ⟨rfl,_⟩:=tx.str
  obtain ⟨rfl,_⟩:=ty.str
  exact Ys pins s σ H _ _ v u Q I rx ry ⟨_,_,rfl,rfl,po _ F H sb .refl (.bl _)⟩
end
noncomputable def eqS:D->D->Option Bool
 | .non,.non=>some true
 | .non,.bl _=>some false
 | .non,.int _=>some false
 | .non,.str _=>some false
 | .non,.tup _=>some false
 | .non,.lst _=>some false
 | .bl _,.non=>some false
 | .bl a,.bl b=>some (a == b)
 | .bl a,.int b=>some ((if a then 1 else 0) == b)
 | .bl _,.str _=>some false
 | .bl _,.tup _=>some false
 | .bl _,.lst _=>some false
 | .int _,.non=>some false
 | .int a,.bl b=>some (a == (if b then 1 else 0))
 | .int a,.int b=>some (a == b)
 | .int _,.str _=>some false
 | .int _,.tup _=>some false
 | .int _,.lst _=>some false
 | .str _,.non=>some false
 | .str _,.bl _=>some false
 | .str _,.int _=>some false
 | .str a,.str b=>some (a == b)
 | .str _,.tup _=>some false
 | .str _,.lst _=>some false
 | .tup _,.non=>some false
 | .tup _,.bl _=>some false
 | .tup _,.int _=>some false
 | .tup _,.str _=>some false
 | .tup _,.lst _=>some false
 | .lst _,.non=>some false
 | .lst _,.bl _=>some false
 | .lst _,.int _=>some false
 | .lst _,.str _=>some false
 | .lst _,.tup _=>some false
 | _,_=>none
noncomputable def vX (f:D->D->Option Bool):List D->List D->Option Bool
 | x::xs,y::ys=>(f x y).bind fun a=>(vX f xs ys).bind fun b=>some (a&&b)
 | _,_=>some true
noncomputable def eqN:Nat->D->D->Option Bool
 | n+1,.tup xs,.tup ys=>(vX (eqN n) xs ys).map fun b=>b&&xs.length == ys.length
 | n+1,.lst xs,.lst ys=>if xs.length=ys.length then vX (eqN n) xs ys else some false
 | _,a,b=>eqS a b
theorem Wj {n:Nat} {a b:D} (h1:∀ xs ys,a=.tup xs->b≠.tup ys) (h2:∀ xs ys,a=.lst xs->b≠.lst ys):eqN n a b=eqS a b:=by
 cases n with
 | zero=>rfl
 | succ n=>
  cases a with
  | tup xs=>cases b with
   | tup ys=>exact absurd rfl (h1 xs ys rfl)
   | _=>rfl
  | lst xs=>cases b with
   | lst ys=>exact absurd rfl (h2 xs ys rfl)
   | _=>rfl
  | _=>rfl
noncomputable def itE (f:D->D->Option Bool) (xs ys:List D) (j:Nat):Bool:=((xs[j]?).bind fun x=>(ys[j]?).bind fun y=>f x y).getD false
theorem vG {f:D->D->Option Bool}:∀ {xs ys:List D} {b:Bool},vX f xs ys=some b->b=(aJ (min xs.length ys.length)).all (itE f xs ys)
 | [],ys,b,h=>by simp [vX] at h ⊢; exact h
 | x::xs,[],b,h=>by simp [vX] at h ⊢; exact h
 | x::xs,y::ys,b,h=>by
  unfold vX at h
  cases e:f x y with
  | none=>rw [e] at h; simp at h
  | some a=>
   cases e2:vX f xs ys with
   | none=>rw [e,e2] at h; simp at h
   | some c=>
    rw [e,e2] at h
    have h:(a&&c)=b:=by simpa using h
    have ih:=vG e2
    have hm:min (x::xs).length (y::ys).length=min xs.length ys.length+1:=by simp only [ao]; omega
    rw [hm,List.range_succ_eq_map,fA,List.all_map]
    have e0:itE f (x::xs) (y::ys) 0=a:=by simp [itE,e]
    have e1:(itE f (x::xs) (y::ys)) ∘ Nat.succ=itE f xs ys:=by
     funext j
     simp [itE]
    rw [e0,e1,<-ih]
    exact h.symm
theorem YK {f:D->D->Option Bool}:∀ {xs ys:List D} {b:Bool},vX f xs ys=some b->∀ (j:Nat) (x y:D),xs[j]?=some x->ys[j]?=some y->f x y=some (itE f xs ys j)
 | [],ys,b,_,j,x,y,hx,_=>by simp at hx
 | x::xs,[],b,_,j,_,y,_,hy=>by simp at hy
 | x::xs,y::ys,b,h,0,x',y',hx,hy=>by
  simp at hx hy
  subst hx hy
  unfold vX at h
  cases e:f x y with
  | none=>rw [e] at h; simp at h
  | some a=>simp [itE,e]
 | x::xs,y::ys,b,h,j+1,x',y',hx,hy=>by
  unfold vX at h
  cases e:f x y with
  | none=>rw [e] at h; simp at h
  | some a=>
   cases e2:vX f xs ys with
   | none=>rw [e,e2] at h; simp at h
   | some c=>
    have q:=YK e2 j x' y' (by simpa using hx) (by simpa using hy)
    rw [q]
    simp [itE]
section
variable {X:Cx} {pins:List (Addr×Obj)} {σ:St} {F H:Hp} {s:Shared}
theorem YL (I:Inv X pins σ H s) (sb:Same F H):∀ (n:Nat) {v:V} {d e:D} {b:Bool},Is X.K F v d->Is X.K F v e->eqN n d e=some b->b=true:=by
 intro n
 induction n with
 | zero=>
  intro v d e b h1 h2 h
  cases h1 <;> cases h2 <;> simp [eqN,eqS] at h <;> try exact h.symm
  all_goals first
   | exact h
   | (rename_i p1 _ _ _ p2 _; obtain ⟨_,_,q1,_⟩:=I.list (sb.seq (by assumption)); obtain ⟨_,_,q2,_⟩:=I.tuple (qM sb (by assumption)); exact absurd rfl (cq q1.isList q2))
   | (rename_i p1 _ _ _ p2 _; obtain ⟨_,_,q1,_⟩:=I.list (sb.seq (by assumption)); obtain ⟨_,_,q2,_⟩:=I.tuple (qM sb (by assumption)); exact absurd rfl (cq q1.isList q2).symm)
   | skip
 | succ n ih=>
  have lists:∀ {xs:List V} {ds es:List D} {b:Bool},IsL X.K F xs ds->IsL X.K F xs es->vX (eqN n) ds es=some b->b=true:=by
   intro xs
   induction xs with
   | nil=>intro ds es b h1 h2 h; cases h1; cases h2; simp [vX] at h; exact h
   | cons x xs ihx=>
    intro ds es b h1 h2 h
    cases h1 with
    | cons a1 t1=>
     cases h2 with
     | cons a2 t2=>
      rename_i d ds e es
      unfold vX at h
      cases q:eqN n d e with
      | none=>rw [q] at h; simp at h
      | some a=>
       cases q2:vX (eqN n) ds es with
       | none=>rw [q,q2] at h; simp at h
       | some c=>
        rw [q,q2] at h
        rw [ih a1 a2 q,ihx t1 t2 q2] at h
        simpa using h.symm
  intro v d e b h1 h2 h
  cases h1 with
  | tup p1 t1=>
   cases h2 with
   | tup p2 t2=>
    have e:=I.tuple_inj (qM sb p1) (qM sb p2)
    subst e
    simp only [eqN] at h
    rename_i xs ds es
    cases q:vX (eqN n) ds es with
    | none=>rw [q] at h; simp at h
    | some c=>
     rw [q] at h
     have hl:ds.length=es.length:=by rw [<-t1.length,<-t2.length]
     have hb:(ds.length == es.length)=true:=by simp [hl]
     rw [lists t1 t2 q] at h
     simpa [hb] using h.symm
   | lst p2 t2=>
    obtain ⟨_,_,q1,_⟩:=I.list (sb.seq p2)
    obtain ⟨_,_,q2,_⟩:=I.tuple (qM sb p1)
    exact absurd rfl (cq q1.isList q2)
   | _=>simp [eqN,eqS] at h
  | lst p1 t1=>
   cases h2 with
   | lst p2 t2=>
    have e:=I.list_inj (sb.seq p1) (sb.seq p2)
    subst e
    simp only [eqN] at h
    have hl:=t1.length.symm.trans t2.length
    rw [if_pos hl] at h
    exact lists t1 t2 h
   | tup p2 t2=>
    obtain ⟨_,_,q1,_⟩:=I.list (sb.seq p1)
    obtain ⟨_,_,q2,_⟩:=I.tuple (qM sb p2)
    exact absurd rfl (cq q1.isList q2)
   | _=>simp [eqN,eqS] at h
  | _=>cases h2 <;> simp [eqN,eqS] at h <;> first | exact h.symm | exact h | skip
end
open PySem.SeqAt
section
variable {X:Cx} {pins:List (Addr×Obj)} {σ:St} {F H:Hp} {s:Shared}
theorem Vals.getE {xs:List V} {us:List Value} (r:Vals xs us) {j:Nat} (h:j < us.length):∃ x,xs[j]?=some x/\RelV x us[j]:=by
 have hl:=r.length
 have hj:j < xs.length:=by omega
 obtain ⟨u,e1,e2⟩:=Vals.get (i:=j) (x:=xs[j]) r (by simp [hj])
 refine ⟨xs[j],by simp [hj],?_⟩
 rw [aC h] at e1
 cases e1
 exact e2
theorem ul {A:Around} {n:Nat} {xs ys:List V} {ds es:List D} {us ws:List Value} {b:Bool} (ih:∀ {v w:V} {d e:D} {u t:Value} {b:Bool},Is X.K F v d->Is X.K F w e->RelV v u->RelV w t->eqN n d e=some b->EqAt A s u t b)
  (r1:Vals xs us) (r2:Vals ys ws) (i1:IsL X.K F xs ds) (i2:IsL X.K F ys es) (h:vX (eqN n) ds es=some b) :
  ∀ j (h1:j < us.toArray.size) (h2:j < ws.toArray.size),EqAt A s us.toArray[j] ws.toArray[j] (itE (eqN n) ds es j):=by
 intro j h1 h2
 have h1':j < us.length:=by simpa using h1
 have h2':j < ws.length:=by simpa using h2
 obtain ⟨x,ex,rx⟩:=Vals.getE r1 h1'
 obtain ⟨y,ey,ry⟩:=Vals.getE r2 h2'
 obtain ⟨d,ed,idd⟩:=i1.get ex
 obtain ⟨e,ee,ie⟩:=i2.get ey
 have q:=YK h j d e ed ee
 simpa using ih idd ie rx ry q
theorem Wl {A:Around} {n:Nat} {a c:Addr} {xs ys:List V} {ds es:List D} {b:Bool} (I:Inv X pins σ H s) (ih:∀ {v w:V} {d e:D} {u t:Value} {b:Bool},Is X.K F v d->Is X.K F w e->RelV v u->RelV w t->eqN n d e=some b->EqAt A.in1 s u t b)
  (p1:SqT X.K H a xs) (p2:SqT X.K H c ys) (i1:IsL X.K F xs ds) (i2:IsL X.K F ys es) (h:eqN (n+1) (.tup ds) (.tup es)=some b) (hu:A.units < cLine):RcAt A s (.ref a) (.ref c) b:=by
 obtain ⟨us,r1,t1,_⟩:=I.tuple p1
 obtain ⟨ws,r2,t2,_⟩:=I.tuple p2
 simp only [eqN] at h
 cases q:vX (eqN n) ds es with
 | none=>rw [q] at h; simp at h
 | some k=>
  rw [q] at h
  have l1:us.toArray.size=ds.length:=by rw [aw,<-r1.length,i1.length]
  have l2:ws.toArray.size=es.length:=by rw [aw,<-r2.length,i2.length]
  have z:=RcAt.tuples (A:=A) t1 t2 hu (ul (A:=A.in1) ih r1 r2 i1 i2 q)
  rw [l1,l2,<-vG q] at z
  have e:b=(k&&ds.length == es.length):=by simpa using h.symm
  rw [e]; exact z
theorem Wm {A:Around} {n:Nat} {a c:Addr} {xs ys:List V} {ds es:List D} {b:Bool} (I:Inv X pins σ H s) (ih:∀ {v w:V} {d e:D} {u t:Value} {b:Bool},Is X.K F v d->Is X.K F w e->RelV v u->RelV w t->eqN n d e=some b->EqAt A.in1 s u t b)
  (p1:SqL X.K H a xs) (p2:SqL X.K H c ys) (i1:IsL X.K F xs ds) (i2:IsL X.K F ys es) (h:eqN (n+1) (.lst ds) (.lst es)=some b) (hu:A.units < cLine):RcAt A s (.ref a) (.ref c) b:=by
 obtain ⟨us,r1,t1,_⟩:=I.list p1
 obtain ⟨ws,r2,t2,_⟩:=I.list p2
 have l1:us.toArray.size=ds.length:=by rw [aw,<-r1.length,i1.length]
 have l2:ws.toArray.size=es.length:=by rw [aw,<-r2.length,i2.length]
 simp only [eqN] at h
 by_cases hl:ds.length=es.length
 ·rw [if_pos hl] at h
  have z:=RcAt.lists (A:=A) t1.isList t2.isList (by omega) hu (ul (A:=A.in1) ih r1 r2 i1 i2 h)
  have e:=vG h
  rw [l1] at z
  rw [e,show min ds.length es.length=ds.length by omega]
  exact z
 ·rw [if_neg hl] at h
  cases h
  exact RcAt.lists_lengths t1.isList t2.isList (bne_iff_ne.mpr (by rw [l1,l2]; exact hl)) hu
theorem YM (I:Inv X pins σ H s) (sb:Same F H):∀ (n:Nat) {A:Around} {v w:V} {d e:D} {u t:Value} {b:Bool},A.units+n < cLine->Is X.K F v d->Is X.K F w e->RelV v u->RelV w t->eqN n d e=some b->EqAt A s u t b:=by
 intro n
 induction n with
 | zero=>
  intro A v w d e u t b hu h1 h2 rx ry h
  have hu:A.units < cLine:=by omega
  have h:eqS d e=some b:=h
  cases h1 with
  | non=>cases rx; cases h2 with
   | non=>cases ry; cases h; exact EqAt.same _
   | bl=>cases ry; cases h; exact EqAt.none_bool _
   | int=>obtain ⟨_,rfl⟩:=ry; cases h; exact EqAt.none_int _ _
   | str=>obtain ⟨_,rfl⟩:=ry; cases h; exact EqAt.none_str _ _
   | tup p _=>cases ry; cases h; obtain ⟨_,_,q,_⟩:=I.tuple (qM sb p); exact EqAt.none_tuple q hu
   | lst p _=>cases ry; cases h; obtain ⟨_,_,q,_⟩:=I.list (sb.seq p); exact EqAt.none_list q.isList hu
   | dct=>cases h
   | raw=>cases h
   | xcp=>cases h
   | ins=>cases h
   | at_=>cases h
  | bl=>cases rx; cases h2 with
   | non=>cases ry; cases h; exact EqAt.bool_none _
   | bl=>cases ry; cases h; exact EqAt.bool_bool _ _
   | int=>obtain ⟨_,rfl⟩:=ry; cases h; exact EqAt.bool_int _ _ _
   | str=>obtain ⟨_,rfl⟩:=ry; cases h; exact EqAt.bool_str _ _ _
   | tup p _=>cases ry; cases h; obtain ⟨_,_,q,_⟩:=I.tuple (qM sb p); exact EqAt.bool_tuple _ q hu
   | lst p _=>cases ry; cases h; obtain ⟨_,_,q,_⟩:=I.list (sb.seq p); exact EqAt.bool_list _ q.isList hu
   | dct=>cases h
   | raw=>cases h
   | xcp=>cases h
   | ins=>cases h
   | at_=>cases h
  | int=>obtain ⟨_,rfl⟩:=rx; cases h2 with
   | non=>cases ry; cases h; exact EqAt.int_none _ _
   | bl=>cases ry; cases h; exact EqAt.int_bool _ _ _
   | int=>obtain ⟨_,rfl⟩:=ry; cases h; exact EqAt.int_int _ _ _ _
   | str=>obtain ⟨_,rfl⟩:=ry; cases h; exact EqAt.int_str _ _ _ _
   | tup p _=>cases ry; cases h; obtain ⟨_,_,q,_⟩:=I.tuple (qM sb p); exact EqAt.int_tuple _ _ q hu
   | lst p _=>cases ry; cases h; obtain ⟨_,_,q,_⟩:=I.list (sb.seq p); exact EqAt.int_list _ _ q.isList hu
   | dct=>cases h
   | raw=>cases h
   | xcp=>cases h
   | ins=>cases h
   | at_=>cases h
  | str=>obtain ⟨_,rfl⟩:=rx; cases h2 with
   | non=>cases ry; cases h; exact EqAt.str_none _ _
   | bl=>cases ry; cases h; exact EqAt.str_bool _ _ _
   | int=>obtain ⟨_,rfl⟩:=ry; cases h; exact EqAt.str_int _ _ _ _
   | str=>obtain ⟨_,rfl⟩:=ry; cases h; exact EqAt.str_str _ _ _ _
   | tup p _=>cases ry; cases h; obtain ⟨_,_,q,_⟩:=I.tuple (qM sb p); exact EqAt.str_tuple _ _ q hu
   | lst p _=>cases ry; cases h; obtain ⟨_,_,q,_⟩:=I.list (sb.seq p); exact EqAt.str_list _ _ q.isList hu
   | dct=>cases h
   | raw=>cases h
   | xcp=>cases h
   | ins=>cases h
   | at_=>cases h
  | tup p0 _=>
   cases rx
   obtain ⟨_,_,q0,_⟩:=I.tuple (qM sb p0)
   cases h2 with
   | non=>cases ry; cases h; exact EqAt.tuple_none q0 hu
   | bl=>cases ry; cases h; exact EqAt.tuple_bool _ q0 hu
   | int=>obtain ⟨_,rfl⟩:=ry; cases h; exact EqAt.tuple_int _ _ q0 hu
   | str=>obtain ⟨_,rfl⟩:=ry; cases h; exact EqAt.tuple_str _ _ q0 hu
   | tup p _=>cases h
   | lst p _=>cases ry; cases h; obtain ⟨_,_,q,_⟩:=I.list (sb.seq p); exact EqAt.tuple_list q0 q.isList hu
   | dct=>cases h
   | raw=>cases h
   | xcp=>cases h
   | ins=>cases h
   | at_=>cases h
  | lst p0 _=>
   cases rx
   obtain ⟨_,_,q0,_⟩:=I.list (sb.seq p0)
   cases h2 with
   | non=>cases ry; cases h; exact EqAt.list_none q0.isList hu
   | bl=>cases ry; cases h; exact EqAt.list_bool _ q0.isList hu
   | int=>obtain ⟨_,rfl⟩:=ry; cases h; exact EqAt.list_int _ _ q0.isList hu
   | str=>obtain ⟨_,rfl⟩:=ry; cases h; exact EqAt.list_str _ _ q0.isList hu
   | tup p _=>cases ry; cases h; obtain ⟨_,_,q,_⟩:=I.tuple (qM sb p); exact EqAt.list_tuple q0.isList q hu
   | lst p _=>cases h
   | dct=>cases h
   | raw=>cases h
   | xcp=>cases h
   | ins=>cases h
   | at_=>cases h
  | dct=>cases h2 <;> cases h
  | raw=>cases h2 <;> cases h
  | xcp=>cases h2 <;> cases h
  | ins=>cases h2 <;> cases h
  | at_=>cases h2 <;> cases h
 | succ n ih=>
  intro A v w d e u t b hu h1 h2 rx ry h
  have hu1:A.in1.units+n < cLine:=by show A.units+1+n < cLine; omega
  by_cases both:(∃ xs ys,d=.tup xs/\e=.tup ys)\/(∃ xs ys,d=.lst xs/\e=.lst ys)
  ·rcases both with ⟨ds,es,rfl,rfl⟩ | ⟨ds,es,rfl,rfl⟩
   ·have h1':=h1
    have h2':=h2
    cases h1 with
    | tup p1 t1=>
     cases h2 with
     | tup p2 t2=>
      rename_i a xs c ys
      cases rx
      cases ry
      by_cases ne:a=c
      ·subst ne
       rw [YL I sb (n+1) h1' h2' h]
       exact EqAt.same _
      ·exact EqAt.of_refs ne (Wl I (fun a1 a2 a3 a4 a5=>ih hu1 a1 a2 a3 a4 a5) (qM sb p1) (qM sb p2) t1 t2 h (by omega))
   ·have h1':=h1
    have h2':=h2
    cases h1 with
    | lst p1 t1=>
     cases h2 with
     | lst p2 t2=>
      rename_i a xs c ys
      cases rx
      cases ry
      by_cases ne:a=c
      ·subst ne
       rw [YL I sb (n+1) h1' h2' h]
       exact EqAt.same _
      ·exact EqAt.of_refs ne (Wm I (fun a1 a2 a3 a4 a5=>ih hu1 a1 a2 a3 a4 a5) (sb.seq p1) (sb.seq p2) t1 t2 h (by omega))
  ·have e1:eqN (n+1) d e=eqS d e:=Wj (fun xs ys a1 a2=>both (.inl ⟨xs,ys,a1,a2⟩)) (fun xs ys a1 a2=>both (.inr ⟨xs,ys,a1,a2⟩))
   have e2:eqN n d e=eqS d e:=Wj (fun xs ys a1 a2=>both (.inl ⟨xs,ys,a1,a2⟩)) (fun xs ys a1 a2=>both (.inr ⟨xs,ys,a1,a2⟩))
   exact ih (by omega) h1 h2 rx ry (by rw [e2,<-e1]; exact h)
end
end L2.D2
namespace L2.D2
open PySem PySem.Spec PyProof.Rows
open PySem.SeqAt
variable {X:Cx} {A:Around} {n:Nat} {b:Bool}
section
variable {pins:List (Addr×Obj)} {σ:St} {F H:Hp} {s:Shared}
theorem GD {a c:Addr} {xs ys:List V} {ds es:List D} (I:Inv X pins σ H s) (ih:∀ {v w:V} {d e:D} {u t:Value} {b:Bool},Is X.K F v d->Is X.K F w e->RelV v u->RelV w t->eqN n d e=some b->EqAt A.in1 s u t b)
  (p1:SqT X.K H a xs) (p2:SqT X.K H c ys) (i1:IsL X.K F xs ds) (i2:IsL X.K F ys es) (h:eqN (n+1) (.tup ds) (.tup es)=some b) (hu:A.units < cLine):RcNeAt A s (.ref a) (.ref c) (!b):=by
 obtain ⟨us,r1,t1,_⟩:=I.tuple p1
 obtain ⟨ws,r2,t2,_⟩:=I.tuple p2
 simp only [eqN] at h
 cases q:vX (eqN n) ds es with
 | none=>rw [q] at h; simp at h
 | some k=>
  rw [q] at h
  have l1:us.toArray.size=ds.length:=by rw [aw,<-r1.length,i1.length]
  have l2:ws.toArray.size=es.length:=by rw [aw,<-r2.length,i2.length]
  have z:=RcNeAt.tuples (A:=A) t1 t2 hu (ul (A:=A.in1) ih r1 r2 i1 i2 q)
  rw [l1,l2,<-vG q] at z
  have e:b=(k&&ds.length == es.length):=by simpa using h.symm
  rw [e]; exact z
theorem GE {a c:Addr} {xs ys:List V} {ds es:List D} (I:Inv X pins σ H s) (ih:∀ {v w:V} {d e:D} {u t:Value} {b:Bool},Is X.K F v d->Is X.K F w e->RelV v u->RelV w t->eqN n d e=some b->EqAt A.in1 s u t b)
  (p1:SqL X.K H a xs) (p2:SqL X.K H c ys) (i1:IsL X.K F xs ds) (i2:IsL X.K F ys es) (h:eqN (n+1) (.lst ds) (.lst es)=some b) (hu:A.units < cLine):RcNeAt A s (.ref a) (.ref c) (!b):=by
 obtain ⟨us,r1,t1,_⟩:=I.list p1
 obtain ⟨ws,r2,t2,_⟩:=I.list p2
 have l1:us.toArray.size=ds.length:=by rw [aw,<-r1.length,i1.length]
 have l2:ws.toArray.size=es.length:=by rw [aw,<-r2.length,i2.length]
 simp only [eqN] at h
 by_cases hl:ds.length=es.length
 ·rw [if_pos hl] at h
  have z:=RcNeAt.lists (A:=A) t1.isList t2.isList (by omega) hu (ul (A:=A.in1) ih r1 r2 i1 i2 h)
  have e:=vG h
  rw [l1] at z
  rw [e,show min ds.length es.length=ds.length by omega]
  exact z
 ·rw [if_neg hl] at h
  cases h
  exact RcNeAt.lists_lengths t1.isList t2.isList (bne_iff_ne.mpr (by rw [l1,l2]; exact hl)) hu
theorem qd7 (I:Inv X pins σ H s) (sb:Same F H) {v w:V} {d e:D} {u t:Value} (hu':A.units+n+1 < cLine) (t1:TopIs X.K F H v d) (t2:TopIs X.K F H w e) (rx:RelV v u) (ry:RelV w t) (h:eqN (n+1) d e=some b):RcAt A s u t b:=by
 have hu:A.units < cLine:=by omega
 have ih:∀ {v w:V} {d e:D} {u t:Value} {b:Bool},Is X.K F v d->Is X.K F w e->RelV v u->RelV w t->eqN n d e=some b->EqAt A.in1 s u t b:=fun a1 a2 a3 a4 a5=>YM I sb n (by show A.units+1+n < cLine; omega) a1 a2 a3 a4 a5
 cases d with
 | non  =>
  obtain rfl:=t1.non; cases rx
  cases e with
  | non  => obtain rfl:=t2.non; cases ry; cases h; exact RcAt.none_none 
  | bl y=>obtain rfl:=t2.bl; cases ry; cases h; exact RcAt.none_bool _
  | int y=>obtain rfl:=t2.int; obtain ⟨_,rfl⟩:=ry; cases h; exact RcAt.none_int _ _
  | str y=>obtain ⟨rfl,_⟩:=t2.str; obtain ⟨_,rfl⟩:=ry; cases h; exact RcAt.none_str _ _
  | tup y=>obtain ⟨c,ys,rfl,p2,i2⟩:=t2.tup sb; cases ry; obtain ⟨_,_,q2,_⟩:=I.tuple p2; cases h; exact RcAt.none_tuple  q2 hu
  | lst y=>obtain ⟨c,ys,rfl,p2,i2⟩:=t2.lst sb; cases ry; obtain ⟨_,_,q2,_⟩:=I.list p2; cases h; exact RcAt.none_list  q2.isList hu
  | dct y=>cases h
  | raw y=>cases h
  | xcp y=>cases h
  | ins y z=>cases h
  | at_ y z=>cases h
 | bl x=>
  obtain rfl:=t1.bl; cases rx
  cases e with
  | non  => obtain rfl:=t2.non; cases ry; cases h; exact RcAt.bool_none _
  | bl y=>obtain rfl:=t2.bl; cases ry; cases h; exact RcAt.bool_bool _ _
  | int y=>obtain rfl:=t2.int; obtain ⟨_,rfl⟩:=ry; cases h; exact RcAt.bool_int _ _ _
  | str y=>obtain ⟨rfl,_⟩:=t2.str; obtain ⟨_,rfl⟩:=ry; cases h; exact RcAt.bool_str _ _ _
  | tup y=>obtain ⟨c,ys,rfl,p2,i2⟩:=t2.tup sb; cases ry; obtain ⟨_,_,q2,_⟩:=I.tuple p2; cases h; exact RcAt.bool_tuple _ q2 hu
  | lst y=>obtain ⟨c,ys,rfl,p2,i2⟩:=t2.lst sb; cases ry; obtain ⟨_,_,q2,_⟩:=I.list p2; cases h; exact RcAt.bool_list _ q2.isList hu
  | dct y=>cases h
  | raw y=>cases h
  | xcp y=>cases h
  | ins y z=>cases h
  | at_ y z=>cases h
 | int x=>
  obtain rfl:=t1.int; obtain ⟨_,rfl⟩:=rx
  cases e with
  | non  => obtain rfl:=t2.non; cases ry; cases h; exact RcAt.int_none _ _
  | bl y=>obtain rfl:=t2.bl; cases ry; cases h; exact RcAt.int_bool _ _ _
  | int y=>obtain rfl:=t2.int; obtain ⟨_,rfl⟩:=ry; cases h; exact RcAt.int_int _ _ _ _
  | str y=>obtain ⟨rfl,_⟩:=t2.str; obtain ⟨_,rfl⟩:=ry; cases h; exact RcAt.int_str _ _ _ _
  | tup y=>obtain ⟨c,ys,rfl,p2,i2⟩:=t2.tup sb; cases ry; obtain ⟨_,_,q2,_⟩:=I.tuple p2; cases h; exact RcAt.int_tuple _ _ q2 hu
  | lst y=>obtain ⟨c,ys,rfl,p2,i2⟩:=t2.lst sb; cases ry; obtain ⟨_,_,q2,_⟩:=I.list p2; cases h; exact RcAt.int_list _ _ q2.isList hu
  | dct y=>cases h
  | raw y=>cases h
  | xcp y=>cases h
  | ins y z=>cases h
  | at_ y z=>cases h
 | str x=>
  obtain ⟨rfl,_⟩:=t1.str; obtain ⟨_,rfl⟩:=rx
  cases e with
  | non  => obtain rfl:=t2.non; cases ry; cases h; exact RcAt.str_none _ _
  | bl y=>obtain rfl:=t2.bl; cases ry; cases h; exact RcAt.str_bool _ _ _
  | int y=>obtain rfl:=t2.int; obtain ⟨_,rfl⟩:=ry; cases h; exact RcAt.str_int _ _ _ _
  | str y=>obtain ⟨rfl,_⟩:=t2.str; obtain ⟨_,rfl⟩:=ry; cases h; exact RcAt.str_str _ _ _ _
  | tup y=>obtain ⟨c,ys,rfl,p2,i2⟩:=t2.tup sb; cases ry; obtain ⟨_,_,q2,_⟩:=I.tuple p2; cases h; exact RcAt.str_tuple _ _ q2 hu
  | lst y=>obtain ⟨c,ys,rfl,p2,i2⟩:=t2.lst sb; cases ry; obtain ⟨_,_,q2,_⟩:=I.list p2; cases h; exact RcAt.str_list _ _ q2.isList hu
  | dct y=>cases h
  | raw y=>cases h
  | xcp y=>cases h
  | ins y z=>cases h
  | at_ y z=>cases h
 | tup x=>
  obtain ⟨a,xs,rfl,p1,i1⟩:=t1.tup sb; cases rx; obtain ⟨_,_,q1,_⟩:=I.tuple p1
  cases e with
  | non  => obtain rfl:=t2.non; cases ry; cases h; exact RcAt.tuple_none  q1 hu
  | bl y=>obtain rfl:=t2.bl; cases ry; cases h; exact RcAt.tuple_bool _ q1 hu
  | int y=>obtain rfl:=t2.int; obtain ⟨_,rfl⟩:=ry; cases h; exact RcAt.tuple_int _ _ q1 hu
  | str y=>obtain ⟨rfl,_⟩:=t2.str; obtain ⟨_,rfl⟩:=ry; cases h; exact RcAt.tuple_str _ _ q1 hu
  | tup y=>obtain ⟨c,ys,rfl,p2,i2⟩:=t2.tup sb; cases ry; obtain ⟨_,_,q2,_⟩:=I.tuple p2; exact Wl I ih p1 p2 i1 i2 h hu
  | lst y=>obtain ⟨c,ys,rfl,p2,i2⟩:=t2.lst sb; cases ry; obtain ⟨_,_,q2,_⟩:=I.list p2; cases h; exact RcAt.tuple_list q1 q2.isList hu
  | dct y=>cases h
  | raw y=>cases h
  | xcp y=>cases h
  | ins y z=>cases h
  | at_ y z=>cases h
 | lst x=>
  obtain ⟨a,xs,rfl,p1,i1⟩:=t1.lst sb; cases rx; obtain ⟨_,_,q1,_⟩:=I.list p1
  cases e with
  | non  => obtain rfl:=t2.non; cases ry; cases h; exact RcAt.list_none  q1.isList hu
  | bl y=>obtain rfl:=t2.bl; cases ry; cases h; exact RcAt.list_bool _ q1.isList hu
  | int y=>obtain rfl:=t2.int; obtain ⟨_,rfl⟩:=ry; cases h; exact RcAt.list_int _ _ q1.isList hu
  | str y=>obtain ⟨rfl,_⟩:=t2.str; obtain ⟨_,rfl⟩:=ry; cases h; exact RcAt.list_str _ _ q1.isList hu
  | tup y=>obtain ⟨c,ys,rfl,p2,i2⟩:=t2.tup sb; cases ry; obtain ⟨_,_,q2,_⟩:=I.tuple p2; cases h; exact RcAt.list_tuple q1.isList q2 hu
  | lst y=>obtain ⟨c,ys,rfl,p2,i2⟩:=t2.lst sb; cases ry; obtain ⟨_,_,q2,_⟩:=I.list p2; exact Wm I ih p1 p2 i1 i2 h hu
  | dct y=>cases h
  | raw y=>cases h
  | xcp y=>cases h
  | ins y z=>cases h
  | at_ y z=>cases h
 | dct x=>cases e <;> cases h
 | raw x=>cases e <;> cases h
 | xcp x=>cases e <;> cases h
 | ins x z=>cases e <;> cases h
 | at_ x z=>cases e <;> cases h
theorem qd8 (I:Inv X pins σ H s) (sb:Same F H) {v w:V} {d e:D} {u t:Value} (hu':A.units+n+1 < cLine) (t1:TopIs X.K F H v d) (t2:TopIs X.K F H w e) (rx:RelV v u) (ry:RelV w t) (h:eqN (n+1) d e=some b):RcNeAt A s u t (!b):=by
 have hu:A.units < cLine:=by omega
 have ih:∀ {v w:V} {d e:D} {u t:Value} {b:Bool},Is X.K F v d->Is X.K F w e->RelV v u->RelV w t->eqN n d e=some b->EqAt A.in1 s u t b:=fun a1 a2 a3 a4 a5=>YM I sb n (by show A.units+1+n < cLine; omega) a1 a2 a3 a4 a5
 cases d with
 | non  =>
  obtain rfl:=t1.non; cases rx
  cases e with
  | non  => obtain rfl:=t2.non; cases ry; cases h; exact RcNeAt.none_none 
  | bl y=>obtain rfl:=t2.bl; cases ry; cases h; exact RcNeAt.none_bool _
  | int y=>obtain rfl:=t2.int; obtain ⟨_,rfl⟩:=ry; cases h; exact RcNeAt.none_int _ _
  | str y=>obtain ⟨rfl,_⟩:=t2.str; obtain ⟨_,rfl⟩:=ry; cases h; exact RcNeAt.none_str _ _
  | tup y=>obtain ⟨c,ys,rfl,p2,i2⟩:=t2.tup sb; cases ry; obtain ⟨_,_,q2,_⟩:=I.tuple p2; cases h; exact RcNeAt.none_tuple  q2 hu
  | lst y=>obtain ⟨c,ys,rfl,p2,i2⟩:=t2.lst sb; cases ry; obtain ⟨_,_,q2,_⟩:=I.list p2; cases h; exact RcNeAt.none_list  q2.isList hu
  | dct y=>cases h
  | raw y=>cases h
  | xcp y=>cases h
  | ins y z=>cases h
  | at_ y z=>cases h
 | bl x=>
  obtain rfl:=t1.bl; cases rx
  cases e with
  | non  => obtain rfl:=t2.non; cases ry; cases h; exact RcNeAt.bool_none _
  | bl y=>obtain rfl:=t2.bl; cases ry; cases h; exact RcNeAt.bool_bool _ _
  | int y=>obtain rfl:=t2.int; obtain ⟨_,rfl⟩:=ry; cases h; exact RcNeAt.bool_int _ _ _
  | str y=>obtain ⟨rfl,_⟩:=t2.str; obtain ⟨_,rfl⟩:=ry; cases h; exact RcNeAt.bool_str _ _ _
  | tup y=>obtain ⟨c,ys,rfl,p2,i2⟩:=t2.tup sb; cases ry; obtain ⟨_,_,q2,_⟩:=I.tuple p2; cases h; exact RcNeAt.bool_tuple _ q2 hu
  | lst y=>obtain ⟨c,ys,rfl,p2,i2⟩:=t2.lst sb; cases ry; obtain ⟨_,_,q2,_⟩:=I.list p2; cases h; exact RcNeAt.bool_list _ q2.isList hu
  | dct y=>cases h
  | raw y=>cases h
  | xcp y=>cases h
  | ins y z=>cases h
  | at_ y z=>cases h
 | int x=>
  obtain rfl:=t1.int; obtain ⟨_,rfl⟩:=rx
  cases e with
  | non  => obtain rfl:=t2.non; cases ry; cases h; exact RcNeAt.int_none _ _
  | bl y=>obtain rfl:=t2.bl; cases ry; cases h; exact RcNeAt.int_bool _ _ _
  | int y=>obtain rfl:=t2.int; obtain ⟨_,rfl⟩:=ry; cases h; exact RcNeAt.int_int _ _ _ _
  | str y=>obtain ⟨rfl,_⟩:=t2.str; obtain ⟨_,rfl⟩:=ry; cases h; exact RcNeAt.int_str _ _ _ _
  | tup y=>obtain ⟨c,ys,rfl,p2,i2⟩:=t2.tup sb; cases ry; obtain ⟨_,_,q2,_⟩:=I.tuple p2; cases h; exact RcNeAt.int_tuple _ _ q2 hu
  | lst y=>obtain ⟨c,ys,rfl,p2,i2⟩:=t2.lst sb; cases ry; obtain ⟨_,_,q2,_⟩:=I.list p2; cases h; exact RcNeAt.int_list _ _ q2.isList hu
  | dct y=>cases h
  | raw y=>cases h
  | xcp y=>cases h
  | ins y z=>cases h
  | at_ y z=>cases h
 | str x=>
  obtain ⟨rfl,_⟩:=t1.str; obtain ⟨_,rfl⟩:=rx
  cases e with
  | non  => obtain rfl:=t2.non; cases ry; cases h; exact RcNeAt.str_none _ _
  | bl y=>obtain rfl:=t2.bl; cases ry; cases h; exact RcNeAt.str_bool _ _ _
  | int y=>obtain rfl:=t2.int; obtain ⟨_,rfl⟩:=ry; cases h; exact RcNeAt.str_int _ _ _ _
  | str y=>obtain ⟨rfl,_⟩:=t2.str; obtain ⟨_,rfl⟩:=ry; cases h; exact RcNeAt.str_str _ _ _ _
  | tup y=>obtain ⟨c,ys,rfl,p2,i2⟩:=t2.tup sb; cases ry; obtain ⟨_,_,q2,_⟩:=I.tuple p2; cases h; exact RcNeAt.str_tuple _ _ q2 hu
  | lst y=>obtain ⟨c,ys,rfl,p2,i2⟩:=t2.lst sb; cases ry; obtain ⟨_,_,q2,_⟩:=I.list p2; cases h; exact RcNeAt.str_list _ _ q2.isList hu
  | dct y=>cases h
  | raw y=>cases h
  | xcp y=>cases h
  | ins y z=>cases h
  | at_ y z=>cases h
 | tup x=>
  obtain ⟨a,xs,rfl,p1,i1⟩:=t1.tup sb; cases rx; obtain ⟨_,_,q1,_⟩:=I.tuple p1
  cases e with
  | non  => obtain rfl:=t2.non; cases ry; cases h; exact RcNeAt.tuple_none  q1 hu
  | bl y=>obtain rfl:=t2.bl; cases ry; cases h; exact RcNeAt.tuple_bool _ q1 hu
  | int y=>obtain rfl:=t2.int; obtain ⟨_,rfl⟩:=ry; cases h; exact RcNeAt.tuple_int _ _ q1 hu
  | str y=>obtain ⟨rfl,_⟩:=t2.str; obtain ⟨_,rfl⟩:=ry; cases h; exact RcNeAt.tuple_str _ _ q1 hu
  | tup y=>obtain ⟨c,ys,rfl,p2,i2⟩:=t2.tup sb; cases ry; obtain ⟨_,_,q2,_⟩:=I.tuple p2; exact GD I ih p1 p2 i1 i2 h hu
  | lst y=>obtain ⟨c,ys,rfl,p2,i2⟩:=t2.lst sb; cases ry; obtain ⟨_,_,q2,_⟩:=I.list p2; cases h; exact RcNeAt.tuple_list q1 q2.isList hu
  | dct y=>cases h
  | raw y=>cases h
  | xcp y=>cases h
  | ins y z=>cases h
  | at_ y z=>cases h
 | lst x=>
  obtain ⟨a,xs,rfl,p1,i1⟩:=t1.lst sb; cases rx; obtain ⟨_,_,q1,_⟩:=I.list p1
  cases e with
  | non  => obtain rfl:=t2.non; cases ry; cases h; exact RcNeAt.list_none  q1.isList hu
  | bl y=>obtain rfl:=t2.bl; cases ry; cases h; exact RcNeAt.list_bool _ q1.isList hu
  | int y=>obtain rfl:=t2.int; obtain ⟨_,rfl⟩:=ry; cases h; exact RcNeAt.list_int _ _ q1.isList hu
  | str y=>obtain ⟨rfl,_⟩:=t2.str; obtain ⟨_,rfl⟩:=ry; cases h; exact RcNeAt.list_str _ _ q1.isList hu
  | tup y=>obtain ⟨c,ys,rfl,p2,i2⟩:=t2.tup sb; cases ry; obtain ⟨_,_,q2,_⟩:=I.tuple p2; cases h; exact RcNeAt.list_tuple q1.isList q2 hu
  | lst y=>obtain ⟨c,ys,rfl,p2,i2⟩:=t2.lst sb; cases ry; obtain ⟨_,_,q2,_⟩:=I.list p2; exact GE I ih p1 p2 i1 i2 h hu
  | dct y=>cases h
  | raw y=>cases h
  | xcp y=>cases h
  | ins y z=>cases h
  | at_ y z=>cases h
 | dct x=>cases e <;> cases h
 | raw x=>cases e <;> cases h
 | xcp x=>cases e <;> cases h
 | ins x z=>cases e <;> cases h
 | at_ x z=>cases e <;> cases h
end
noncomputable def eqD (a b:D):Out D:=match eqN 8 a b with
 | some c=>.ok (.bl c)
 | none=>.bad
noncomputable def neD (a b:D):Out D:=match eqN 8 a b with
 | some c=>.ok (.bl (!c))
 | none=>.bad
section
variable {C:Ct}
theorem uO (hK:C.K=X.K) (hu:X.A.units+64 < cLine):OpD X C .sh (compareOp .Eq) eqD:=by
 intro pins s σ H x y v u Q I rx ry h
 obtain ⟨F,dx,dy,sb,tx,ty,po⟩:=h
 rw [hK] at tx ty
 unfold eqD at po
 cases e:eqN 8 dx dy with
 | none=>rw [e] at po; exact po.elim
 | some c=>
  rw [e] at po
  exact qd7 I sb (n:=7) (by omega) tx ty rx ry e _ _ _ _ ⟨.bl c,H,I,rfl,po _ F H sb .refl (.bl _)⟩
theorem Vf (hK:C.K=X.K) (hu:X.A.units+64 < cLine):OpD X C .sh (compareOp .NotEq) neD:=by
 intro pins s σ H x y v u Q I rx ry h
 obtain ⟨F,dx,dy,sb,tx,ty,po⟩:=h
 rw [hK] at tx ty
 unfold neD at po
 cases e:eqN 8 dx dy with
 | none=>rw [e] at po; exact po.elim
 | some c=>
  rw [e] at po
  exact qd8 I sb (n:=7) (by omega) tx ty rx ry e _ _ _ _ ⟨.bl _,H,I,rfl,po _ F H sb .refl (.bl _)⟩
end
end L2.D2
namespace L2.D2
open PySem PySem.Spec PyProof.Rows
open PySem.SeqAt
variable {X:Cx} {pins:List (Addr×Obj)} {σ:St} {F H:Hp} {s:Shared} {n:Nat} {v:V} {d e:D} {b:Bool}
section
theorem qb5 (I:Inv X pins σ H s) (sb:Same F H):∀ (n:Nat) {v:V} {d d' e:D} {b b':Bool},Is X.K F v d->Is X.K F v d'->eqN n d e=some b->eqN n d' e=some b'->b=b':=by
 have notTL:∀ {a:Addr} {xs ys:List V},SqT X.K F a xs->SqL X.K F a ys->False:=fun p q=>by
  obtain ⟨_,_,q1,_⟩:=I.list (sb.seq q)
  obtain ⟨_,_,q2,_⟩:=I.tuple (qM sb p)
  exact absurd rfl (ne_of_list_tuple q1.isList q2)
 intro n
 induction n with
 | zero=>
  intro v d d' e b b' h1 h2 e1 e2
  have e1:eqS d e=some b:=e1
  have e2:eqS d' e=some b':=e2
  cases h1 <;> cases h2 <;> cases e <;> simp only [eqS] at e1 e2 <;> first
   | (cases e1; cases e2; rfl)
   | (cases e1; done)
   | (cases e2; done)
   | exact (notTL (by assumption) (by assumption)).elim
 | succ n ih=>
  have lists:∀ {xs:List V} {ds ds' es:List D} {b b':Bool},IsL X.K F xs ds->IsL X.K F xs ds'->vX (eqN n) ds es=some b->vX (eqN n) ds' es=some b'->b=b':=by
   intro xs
   induction xs with
   | nil=>intro ds ds' es b b' h1 h2 e1 e2; cases h1; cases h2; simp only [vX] at e1 e2; cases e1; cases e2; rfl
   | cons x xs ihx=>
    intro ds ds' es b b' h1 h2 e1 e2
    cases h1 with
    | cons a1 t1=>
     cases h2 with
     | cons a2 t2=>
      rename_i d ds d' ds'
      cases es with
      | nil=>simp only [vX] at e1 e2; cases e1; cases e2; rfl
      | cons e es=>
       unfold vX at e1 e2
       cases q:eqN n d e with
       | none=>rw [q] at e1; simp at e1
       | some k=>
        cases q2:eqN n d' e with
        | none=>rw [q2] at e2; simp at e2
        | some k'=>
         cases q3:vX (eqN n) ds es with
         | none=>rw [q,q3] at e1; simp at e1
         | some k3=>
          cases q4:vX (eqN n) ds' es with
          | none=>rw [q2,q4] at e2; simp at e2
          | some k4=>
           rw [q,q3] at e1
           rw [q2,q4] at e2
           rw [ih a1 a2 q q2,ihx t1 t2 q3 q4] at e1
           have e1:some (k'&&k4)=some b:=e1
           have e2:some (k'&&k4)=some b':=e2
           rw [e1] at e2
           exact bc.inj e2
  intro v d d' e b b' h1 h2 e1 e2
  cases h1 with
  | tup p1 t1=>
   cases h2 with
   | tup p2 t2=>
    have q:=I.tuple_inj (qM sb p1) (qM sb p2)
    subst q
    have hl:=t1.length.symm.trans t2.length
    cases e with
    | tup es=>
     rename_i ds ds'
     simp only [eqN] at e1 e2
     cases q3:vX (eqN n) ds es with
     | none=>rw [q3] at e1; simp at e1
     | some k3=>
      cases q4:vX (eqN n) ds' es with
      | none=>rw [q4] at e2; simp at e2
      | some k4=>
       rw [q3] at e1
       rw [q4] at e2
       rw [lists t1 t2 q3 q4,hl] at e1
       exact bc.inj (e1.symm.trans e2)
    | _=>simp only [eqN,eqS] at e1 e2 <;> first | (cases e1; cases e2; rfl) | (cases e1; done)
   | lst p2 t2=>exact (notTL p1 p2).elim
   | _=>cases e <;> simp [eqN,eqS] at e2
  | lst p1 t1=>
   cases h2 with
   | lst p2 t2=>
    have q:=I.list_inj (sb.seq p1) (sb.seq p2)
    subst q
    have hl:=t1.length.symm.trans t2.length
    cases e with
    | lst es=>
     rename_i ds ds'
     simp only [eqN] at e1 e2
     rw [hl] at e1
     by_cases z:ds'.length=es.length
     ·rw [if_pos z] at e1 e2
      exact lists t1 t2 e1 e2
     ·rw [if_neg z] at e1 e2
      exact bc.inj (e1.symm.trans e2)
    | _=>simp only [eqN,eqS] at e1 e2 <;> first | (cases e1; cases e2; rfl) | (cases e1; done)
   | tup p2 t2=>exact (notTL p2 p1).elim
   | _=>cases e <;> simp [eqN,eqS] at e2
  | _=>cases h2 <;> cases e <;> simp only [eqN,eqS] at e1 e2 <;> first
   | (cases e1; cases e2; rfl)
   | (cases e1; done)
   | (cases e2; done)
open Classical in
noncomputable def Ge (X:Cx) (F:Hp) (n:Nat) (e:D) (u:Value):Bool:=decide (∃ v d,Is X.K F v d/\RelV v u/\eqN n d e=some true)
open Classical in
theorem qb6 (I:Inv X pins σ H s) (sb:Same F H) {u:Value} (h:Is X.K F v d) (r:RelV v u) (q:eqN n d e=some b):Ge X F n e u=b:=by
 unfold Ge
 cases b with
 | true=>exact decide_eq_true ⟨v,d,h,r,q⟩
 | false=>
  refine decide_eq_false ?_
  rintro ⟨w,d',h',r',q'⟩
  have e:=r.inj r'
  subst e
  exact absurd (qb5 I sb n h h' q q') (by decide)
noncomputable def KR (n:Nat) (e:D):List D->Option Bool
 | []=>some false
 | d::ds=>(eqN n d e).bind fun a=>(KR n e ds).bind fun b=>some (a||b)
theorem YN {ds:List D} (h:KR n e (d::ds)=some b):∃ a c,eqN n d e=some a/\KR n e ds=some c/\b=(a||c):=by
 unfold KR at h
 cases q:eqN n d e with
 | none=>rw [q] at h; simp at h
 | some a=>
  cases q2:KR n e ds with
  | none=>rw [q,q2] at h; simp at h
  | some c=>rw [q,q2] at h; exact ⟨a,c,rfl,rfl,(bc.inj h).symm⟩
theorem YO (I:Inv X pins σ H s) (sb:Same F H):∀ {vs:List V} {ds:List D} {us:List Value} {b:Bool},IsL X.K F vs ds->Vals vs us->KR n e ds=some b->us.any (Ge X F n e)=b/\∀ u∈us,∃ v d a,Is X.K F v d/\RelV v u/\eqN n d e=some a/\Ge X F n e u=a
 | _,_,_,b,.nil,.nil,h=>⟨by simpa using (bc.inj h),fun u hu=>nomatch hu⟩
 | _,_,_,b,.cons i t,.cons r rs,h=>by
  obtain ⟨a,c,q1,q2,rfl⟩:=YN h
  obtain ⟨ih1,ih2⟩:=YO I sb t rs q2
  have e1:=qb6 I sb i r q1
  refine ⟨by rw [cK,e1,ih1],fun u hu=>?_⟩
  rcases ac.mp hu with rfl | hu
  ·exact ⟨_,_,a,i,r,q1,e1⟩
  ·exact ih2 u hu
end
noncomputable def inD (x y:D):Out Bool:=match y with
 | .lst ds=>match KR 7 x ds with
  | some b=>.ok b
  | none=>.bad
 | .tup ds=>match KR 7 x ds with
  | some b=>.ok b
  | none=>.bad
 | _=>.bad
noncomputable def qfw (x y:D):Out D:=(inD x y).bind fun b=>.ok (.bl b)
noncomputable def Uu (x y:D):Out D:=(inD x y).bind fun b=>.ok (.bl (!b))
theorem TopIs.is {K:Frag} (s:Same F H) (h:TopIs K F H v d):∃ F',Same F F'/\Same F' H/\Is K F' v d:=by
 rcases h with h | ⟨a,rfl,o⟩
 ·exact ⟨F,Same.refl _,s,h⟩
 ·obtain ⟨u,hu⟩:∃ u,H a=some u:=by
   cases q:H a with
   | none=>exact absurd q o.there
   | some u=>exact ⟨u,rfl⟩
  by_cases hF:F a=none
  ·have gr:Same F (upd F a u):=fun b w e=>by rw [qB (qI e hF)]; exact e
   refine ⟨upd F a u,gr,fun b w e=>?_,?_⟩
   ·by_cases q:b=a
    ·subst q; rw [qr] at e; cases e; exact hu
    ·rw [qB q] at e; exact s b w e
   ·cases d with
    | lst ds=>obtain ⟨xs,e,t⟩:=o; rw [hu] at e; cases e; exact .lst (.inl (.inl qr)) (t.mono gr)
    | dct ds=>obtain ⟨xs,e,t⟩:=o; rw [hu] at e; cases e; exact .dct qr (t.mono gr)
    | ins C fs=>obtain ⟨dx,xs,e,t⟩:=o; rw [hu] at e; cases e; exact .ins qr (t.mono gr)
    | at_ b ds=>obtain ⟨eb,xs,e,t⟩:=o; rw [hu] at e; cases e; subst eb; exact .at_ (.inl (.inl qr)) (t.mono gr)
    | _=>exact o.elim
  ·obtain ⟨w,hw⟩:∃ w,F a=some w:=by
    cases q:F a with
    | none=>exact absurd q hF
    | some w=>exact ⟨w,rfl⟩
   have e:=s a w hw
   cases d with
   | lst ds=>obtain ⟨xs,e',t⟩:=o; rw [e'] at e; cases e; exact ⟨F,Same.refl _,s,.lst (.inl (.inl hw)) t⟩
   | dct ds=>obtain ⟨xs,e',t⟩:=o; rw [e'] at e; cases e; exact ⟨F,Same.refl _,s,.dct hw t⟩
   | ins C fs=>obtain ⟨dx,xs,e',t⟩:=o; rw [e'] at e; cases e; exact ⟨F,Same.refl _,s,.ins hw t⟩
   | at_ b ds=>obtain ⟨eb,xs,e',t⟩:=o; rw [e'] at e; cases e; subst eb; exact ⟨F,Same.refl _,s,.at_ (.inl (.inl hw)) t⟩
   | _=>exact o.elim
section
variable {C:Ct}
theorem Wn {A:Around} {y x:V} {dx:D} {ds:List D} {b:Bool} {u v:Value} {a:Addr} {us:List Value} {xs:List V} (I:Inv X pins σ H s) (hu:A.units+64 < cLine) (sb:Same F H) (ix:Is X.K F x dx) (rx:RelV x v)
  (il:IsL X.K F xs ds) (r:Vals xs us) (h:KR 7 dx ds=some b):us.any (Ge X F 7 dx)=b/\∀ w,w∈us.toArray->EqAt A.in1 s w v (Ge X F 7 dx w):=by
 obtain ⟨h1,h2⟩:=YO I sb il r h
 refine ⟨h1,fun w hw=>?_⟩
 obtain ⟨vv,d,k,i1,r1,q,e⟩:=h2 w (by simpa using hw)
 rw [e]
 exact YM I sb 7 (by show A.units+1+7 < cLine; omega) i1 ix r1 rx q
theorem qgd (hK:C.K=X.K) (hu:X.A.units+64 < cLine):OpD X C .sh (compareOp .In) qfw:=by
 intro pins s σ H x y v u Q I rx ry h
 obtain ⟨F,dx,dy,sb,tx,ty,po⟩:=h
 rw [hK] at tx ty
 unfold qfw inD at po
 obtain ⟨F',g',sb',ix⟩:=tx.is sb
 cases dy with
 | lst ds=>
  cases e:KR 7 dx ds with
  | none=>simp only [e] at po; exact po.elim
  | some b=>
   simp only [e] at po
   obtain ⟨a,xs,rfl,p,il⟩:=ty.lst sb
   cases ry
   obtain ⟨us,r,pl,_⟩:=I.list p
   obtain ⟨h1,h2⟩:=Wn (A:=X.A) (y:=.non) (a:=a) (u:=.none) I hu sb' ix rx (il.mono g') r e
   refine in_listAt (Ge X F' 7 dx) pl.isList h2 ⟨.bl b,H,I,by show _=_; rw [<-h1]; simp,po _ F H sb .refl (.bl _)⟩
 | tup ds=>
  cases e:KR 7 dx ds with
  | none=>simp only [e] at po; exact po.elim
  | some b=>
   simp only [e] at po
   obtain ⟨a,xs,rfl,p,il⟩:=ty.tup sb
   cases ry
   obtain ⟨us,r,pl,_⟩:=I.tuple p
   obtain ⟨h1,h2⟩:=Wn (A:=X.A) (y:=.non) (a:=a) (u:=.none) I hu sb' ix rx (il.mono g') r e
   refine in_tupleAt (Ge X F' 7 dx) pl h2 ⟨.bl b,H,I,by show _=_; rw [<-h1]; simp,po _ F H sb .refl (.bl _)⟩
 | _=>exact po.elim
theorem GF (hK:C.K=X.K) (hu:X.A.units+64 < cLine):OpD X C .sh (compareOp .NotIn) Uu:=by
 intro pins s σ H x y v u Q I rx ry h
 obtain ⟨F,dx,dy,sb,tx,ty,po⟩:=h
 rw [hK] at tx ty
 unfold Uu inD at po
 obtain ⟨F',g',sb',ix⟩:=tx.is sb
 cases dy with
 | lst ds=>
  cases e:KR 7 dx ds with
  | none=>simp only [e] at po; exact po.elim
  | some b=>
   simp only [e] at po
   obtain ⟨a,xs,rfl,p,il⟩:=ty.lst sb
   cases ry
   obtain ⟨us,r,pl,_⟩:=I.list p
   obtain ⟨h1,h2⟩:=Wn (A:=X.A) (y:=.non) (a:=a) (u:=.none) I hu sb' ix rx (il.mono g') r e
   refine notIn_listAt (Ge X F' 7 dx) pl.isList h2 ⟨.bl (!b),H,I,by show _=_; rw [<-h1]; simp,po _ F H sb .refl (.bl _)⟩
 | tup ds=>
  cases e:KR 7 dx ds with
  | none=>simp only [e] at po; exact po.elim
  | some b=>
   simp only [e] at po
   obtain ⟨a,xs,rfl,p,il⟩:=ty.tup sb
   cases ry
   obtain ⟨us,r,pl,_⟩:=I.tuple p
   obtain ⟨h1,h2⟩:=Wn (A:=X.A) (y:=.non) (a:=a) (u:=.none) I hu sb' ix rx (il.mono g') r e
   refine notIn_tupleAt (Ge X F' 7 dx) pl h2 ⟨.bl (!b),H,I,by show _=_; rw [<-h1]; simp,po _ F H sb .refl (.bl _)⟩
 | _=>exact po.elim
end
end L2.D2
namespace L2.D2
open PySem PySem.Spec PyProof.Rows
def PoT (C:Ct) (own:List Nat) (σ:St) (F H:Hp) (r:Out (Bool×Sl)) (Q:Bool->Hp->Prop):Prop:=match r with
 | .ok (b,ρ')=>∀ F' H',Rep C.K own F' H' σ ρ'->Chg (OA own σ) F H F' H'->Q b H'
 | .exc c ρ'=>∀ F' H',Same F' H'->YJ C.K C.ox F' H' σ ρ'->Chg (OA own σ) F H F' H'->C.E (C.cv c) none H'
 | .bad=>False
def tT (C:Ct) (own:List Nat) (f:Sl->Out (Bool×Sl)):TT:=fun σ H Q=>∃ F ρ,Rep C.K own F H σ ρ/\PoT C own σ F H (f ρ) Q
variable {C:Ct} {own:List Nat} {σ:St} {F H F1 H1:Hp} {Q:Bool->Hp->Prop}
theorem PoT.shift {r:Out (Bool×Sl)} (h:PoT C own σ F H r Q) (c:Chg (OA own σ) F H F1 H1):PoT C own σ F1 H1 r Q:=by
 cases r with
 | ok p=>exact fun F' H' rp c'=>h F' H' rp (c.trans' c')
 | exc x=>exact fun F' H' s io c'=>h F' H' s io (c.trans' c')
 | bad=>exact h.elim
variable {o:Out (D×Sl)}
theorem PoT.bindV {ma:Mo} {k:D×Sl->Out (Bool×Sl)} {R:VK} (hp:PoT C own σ F H (o.bind k) Q)
  (h:∀ v F1 H1 d ρ1,Rep C.K own F1 H1 σ ρ1->Chg (OA own σ) F H F1 H1->MoIs C.K ma H F1 H1 v d->PoT C own σ F1 H1 (k (d,ρ1)) Q->R v H1):Po C own ma σ F H o R:=by
 cases o with
 | ok p=>
  obtain ⟨d,ρ1⟩:=p
  exact fun v F1 H1 rp c mo=>h v F1 H1 d ρ1 rp c mo (PoT.shift (show PoT C own σ F H (k (d,ρ1)) Q from hp) c)
 | exc x=>exact hp
 | bad=>exact hp.elim
theorem PoT.bindT {o:Out (Bool×Sl)} {k:Bool×Sl->Out (Bool×Sl)} {R:Bool->Hp->Prop} (hp:PoT C own σ F H (o.bind k) Q)
  (h:∀ F1 H1 b ρ1,Rep C.K own F1 H1 σ ρ1->Chg (OA own σ) F H F1 H1->PoT C own σ F1 H1 (k (b,ρ1)) Q->R b H1):PoT C own σ F H o R:=by
 cases o with
 | ok p=>
  obtain ⟨d,ρ1⟩:=p
  exact fun F1 H1 rp c=>h F1 H1 d ρ1 rp c (PoT.shift (show PoT C own σ F H (k (d,ρ1)) Q from hp) c)
 | exc x=>exact hp
 | bad=>exact hp.elim
variable {m:Mo}
theorem Po.bindT {o:Out (Bool×Sl)} {k:Bool×Sl->Out (D×Sl)} {Q:VK} {R:Bool->Hp->Prop} (hp:Po C own m σ F H (o.bind k) Q)
  (h:∀ F1 H1 b ρ1,Rep C.K own F1 H1 σ ρ1->Chg (OA own σ) F H F1 H1->Po C own m σ F1 H1 (k (b,ρ1)) Q->R b H1):PoT C own σ F H o R:=by
 cases o with
 | ok p=>
  obtain ⟨d,ρ1⟩:=p
  exact fun F1 H1 rp c=>h F1 H1 d ρ1 rp c (Po.shift (show Po C own m σ F H (k (d,ρ1)) Q from hp) c)
 | exc x=>exact hp
 | bad=>exact hp.elim
noncomputable def yg:D->Out Bool
 | .non=>.ok false
 | .bl b=>.ok b
 | .int i=>.ok (i != 0)
 | .str x=>.ok ((x.length:Int) != 0)
 | .tup xs=>.ok (!xs.isEmpty)
 | .lst xs=>.ok (!xs.isEmpty)
 | .dct xs=>.ok (!xs.isEmpty)
 | .raw _=>.bad
 | .xcp _=>.bad
 | .ins _ _=>.bad
 | .at_ _ _=>.bad
noncomputable def gy (f:Sl->Out (D×Sl)):Sl->Out (Bool×Sl):=fun ρ=>(f ρ).bind fun p=>(yg p.1).bind fun b=>.ok (b,p.2)
variable {K:Frag} {vs:List V} {ds:List D}
theorem IsL.isEmpty (h:IsL K F vs ds):vs.isEmpty=ds.isEmpty:=by cases h <;> rfl
theorem IsK.isEmpty {vs:List (Key×V)} {ds:List (Key×D)} (h:IsK K F vs ds):vs.isEmpty=ds.isEmpty:=by cases h <;> rfl
variable {v:V} {d:D}
theorem qb7 {b:Bool} (s:Same F H) (h:TopIs K F H v d) (e:yg d=.ok b):qf2 K v H b:=by
 cases d with
 | non=>obtain rfl:=h.non; cases e; rfl
 | bl x=>obtain rfl:=h.bl; cases e; rfl
 | int x=>obtain rfl:=h.int; cases e; rfl
 | str x=>obtain ⟨rfl,q⟩:=h.str; cases e; exact ⟨q,rfl⟩
 | tup x=>obtain ⟨a,xs,rfl,p,t⟩:=h.tup s; cases e; exact .inr (.inl ⟨xs,p,by rw [t.isEmpty]⟩)
 | lst x=>obtain ⟨a,xs,rfl,p,t⟩:=h.lst s; cases e; exact .inl ⟨xs,p,by rw [t.isEmpty]⟩
 | dct x=>obtain ⟨a,xs,rfl,p,t⟩:=h.dct s; cases e; exact .inr (.inr ⟨xs,p,by rw [t.isEmpty]⟩)
 | raw x=>cases e
 | xcp x=>cases e
 | ins x y=>cases e
 | at_ x y=>cases e
noncomputable def jg (f:Sl->Out (D×Sl)):Sl->Out (Bool×Sl):=fun ρ=>(f ρ).bind fun p=>match p.1 with
 | .bl b=>.ok (b,p.2)
 | _=>.bad
variable {X:Cx} {c e:Expr} {f fa:Sl->Out (D×Sl)} {ft:Sl->Out (Bool×Sl)} {ma mb:Mo} {pos:Pos} {op op':CmpOp} {ρ:Sl} {g':D->D->Out D}
section
variable {a b:Expr} {fb fc:Sl->Out (D×Sl)} {fu:Sl->Out (Bool×Sl)} {mc:Mo} {rest:List Expr}
theorem jH (hK:C.K=X.K) (h:PE X e (tE C own m f)) (he:∀ whole,isTrue e X.env whole=(do let v <-whole; standAt e.pos; holding [v] (truthy v))):PT X e (tT C own (gy f)):=by
 refine GA (Gq h he) fun σ H Q ⟨F,ρ,rp,h⟩=>⟨F,ρ,rp,PoT.bindV h fun v F1 H1 d ρ1 rp1 c1 mo1 h1=>?_⟩
 cases q:yg d with
 | ok k=>
  have h1:PoT C own σ F1 H1 ((yg d).bind fun b=>.ok (b,ρ1)) Q:=h1
  rw [q] at h1
  exact ⟨k,by rw [<-hK]; exact qb7 rp1.sub mo1.top q,h1 F1 H1 rp1 .refl⟩
 | exc x=>
  have h1:PoT C own σ F1 H1 ((yg d).bind fun b=>.ok (b,ρ1)) Q:=h1
  cases d <;> cases q
 | bad=>
  have h1:PoT C own σ F1 H1 ((yg d).bind fun b=>.ok (b,ρ1)) Q:=h1
  rw [q] at h1
  exact h1.elim
theorem YQ (h:tT C own (jg f) σ H Q):tE C own .sh f σ H fun x H'=>∃ k,x=.bl k/\Q k H':=by
 obtain ⟨F,ρ,rp,h⟩:=h
 refine ⟨F,ρ,rp,PoT.bindV h fun v F1 H1 d ρ1 rp1 c1 mo1 h1=>?_⟩
 cases d with
 | bl k=>
  have mo1:Is C.K F1 v (.bl k):=mo1
  cases mo1
  exact ⟨k,rfl,h1 F1 H1 rp1 .refl⟩
 | _=>exact h1.elim
theorem qX {g:D->D->Out D} (ho:OpD X C .sh (compareOp op) g) (ha:PE X a (tE C own ma fa)) (hb:PE X b (tE C own mb fb)) (hma:ma≠.any:=by decide)
  (hk:behindInMarks op b=false:=by first | exact qbb _ | with_unfolding_all rfl):PT X (.Compare a [op] [b] pos) (tT C own (jg (d2 g fa fb))):=by
 refine GA (qbW ho ha hb hk) fun σ H Q h=>?_
 exact JL hma (YQ h)
noncomputable def Vg (ft:Sl->Out (Bool×Sl)):Sl->Out (Bool×Sl):=fun ρ=>(ft ρ).bind fun p=>.ok (!p.1,p.2)
theorem kl (h:PT X a (tT C own ft)):PT X (.UnaryOp .Not a pos) (tT C own (Vg ft)):=by
 refine GA (qdC h) fun σ H Q ⟨F,ρ,rp,h⟩=>⟨F,ρ,rp,PoT.bindT h fun F1 H1 b ρ1 rp1 c1 h1=>h1 F1 H1 rp1 .refl⟩
theorem qd9 {e:Expr} {t t':TT} (h:PW X e t) (i:∀ σ H Q,t' σ H Q->t σ H Q):PW X e t':=⟨fun wh pins s σ H Q I hw=>h wh pins s σ H Q I (i σ H Q hw)⟩
noncomputable def qb8 (ft fu:Sl->Out (Bool×Sl)):Sl->Out (Bool×Sl):=fun ρ=>(ft ρ).bind fun p=>if p.1=true then fu p.2 else .ok (false,p.2)
noncomputable def dOr (ft fu:Sl->Out (Bool×Sl)):Sl->Out (Bool×Sl):=fun ρ=>(ft ρ).bind fun p=>if p.1=true then .ok (true,p.2) else fu p.2
theorem vY {op} (h:PT X a (tT C own ft)):PW X (.BoolOp op [a] pos) (tT C own ft):=by
 cases op
 ·exact qbN h
 ·exact qdA h
theorem YR (ha:PT X a (tT C own ft)) (hb:PW X (.BoolOp .And (b::rest) pos) (tT C own fu)):PW X (.BoolOp .And (a::b::rest) pos) (tT C own (qb8 ft fu)):=by
 refine qd9 (qdB ha hb) fun σ H Q ⟨F,ρ,rp,h⟩=>⟨F,ρ,rp,PoT.bindT h fun F1 H1 k ρ1 rp1 c1 h1=>?_⟩
 cases k with
 | true=>exact ⟨F1,ρ1,rp1,h1⟩
 | false=>exact h1 F1 H1 rp1 .refl
theorem zx (ha:PT X a (tT C own ft)) (hb:PW X (.BoolOp .Or (b::rest) pos) (tT C own fu)):PW X (.BoolOp .Or (a::b::rest) pos) (tT C own (dOr ft fu)):=by
 refine qd9 (qfN ha hb) fun σ H Q ⟨F,ρ,rp,h⟩=>⟨F,ρ,rp,PoT.bindT h fun F1 H1 k ρ1 rp1 c1 h1=>?_⟩
 cases k with
 | true=>exact h1 F1 H1 rp1 .refl
 | false=>exact ⟨F1,ρ1,rp1,h1⟩
noncomputable def Vh (fa fb:Sl->Out (D×Sl)):Sl->Out (D×Sl):=fun ρ=>(fa ρ).bind fun p=>match p.1 with
 | .bl true=>fb p.2
 | .bl false=>.ok (.bl false,p.2)
 | _=>.bad
noncomputable def qg0 (fa fb:Sl->Out (D×Sl)):Sl->Out (D×Sl):=fun ρ=>(fa ρ).bind fun p=>match p.1 with
 | .bl true=>.ok (.bl true,p.2)
 | .bl false=>fb p.2
 | _=>.bad
theorem YS {op} (h:PE X a (tE C own m f)):PE X (.BoolOp op [a] pos) (tE C own m f):=qdD h
theorem Wo (ha:PE X a (tE C own .sh fa)) (hb:PE X (.BoolOp .And (b::rest) pos) (tE C own .sh fb)):PE X (.BoolOp .And (a::b::rest) pos) (tE C own .sh (Vh fa fb)):=by
 refine jG (qdE ha hb) fun σ H Q ⟨F,ρ,rp,h⟩=>⟨F,ρ,rp,Po.bind h fun v F1 H1 d ρ1 rp1 c1 mo1 h1=>?_⟩
 cases d with
 | bl k=>
  have mo1:Is C.K F1 v (.bl k):=mo1
  cases mo1
  refine ⟨k,rfl,?_⟩
  cases k with
  | true=>exact ⟨F1,ρ1,rp1,h1⟩
  | false=>exact h1 _ F1 H1 rp1 .refl (.bl _)
 | _=>exact h1.elim
noncomputable def dIf (ft:Sl->Out (Bool×Sl)) (fa fb:Sl->Out (D×Sl)):Sl->Out (D×Sl):=fun ρ=>(ft ρ).bind fun p=>if p.1=true then fa p.2 else fb p.2
theorem Uv {t:Expr} (ht:PT X t (tT C own ft)) (ha:PE X a (tE C own ma fa)) (hb:PE X b (tE C own mb fb)) (h1:ma≠.any:=by decide) (h2:mb≠.any:=by decide):PE X (.IfExp t a b pos) (tE C own .sh (dIf ft fa fb)):=by
 refine jG (Gi ht (uM ha h1) (uM hb h2)) fun σ H Q ⟨F,ρ,rp,h⟩=>⟨F,ρ,rp,Po.bindT h fun F1 H1 k ρ1 rp1 c1 h1=>?_⟩
 cases k with
 | true=>exact ⟨F1,ρ1,rp1,h1⟩
 | false=>exact ⟨F1,ρ1,rp1,h1⟩
noncomputable def yh (g g':D->D->Out D) (fa fb fc:Sl->Out (D×Sl)):Sl->Out (D×Sl):=fun ρ=>(fa ρ).bind fun p=>(fb p.2).bind fun q=>(g p.1 q.1).plain.bind fun z=>match z with
 | .bl true=>(fc q.2).bind fun r=>(g' q.1 r.1).plain.bind fun d=>.ok (d,r.2)
 | .bl false=>.ok (.bl false,q.2)
 | _=>.bad
theorem PoV.bind {o:Out D} {k:D->Out (D×Sl)} {Q R:VK} (rp:Rep C.K own F H σ ρ) (h:Po C own m σ F H (o.plain.bind k) Q)
  (hk:∀ v F1 H1 d,Rep C.K own F1 H1 σ ρ->Chg No F H F1 H1->MoIs C.K ma H F1 H1 v d->Po C own m σ F1 H1 (k d) Q->R v H1):PoV C ma F H o R:=by
 cases o with
 | ok d=>exact fun v F1 H1 s c mo=>hk v F1 H1 d (rp.grow c s) c mo (Po.shift (show Po C own m σ F H (k d) Q from h) c.ofNo)
 | exc c=>exact h.elim
 | bad=>exact h.elim
theorem Wp {g:D->D->Out D} {Q:VK} (hma:ma≠.any) (hmb:mb≠.any) (h:tE C own .sh (yh g g' fa fb fc) σ H Q) :
  Yt (fun x y H Q=>∃ F dx dy,Same F H/\TopIs C.K F H x dx/\TopIs C.K F H y dy/\PoV C .sh F H (g dx dy) Q) (fun x y H Q=>∃ F dx dy,Same F H/\TopIs C.K F H x dx/\TopIs C.K F H y dy/\PoV C .sh F H (g' dx dy) Q)
   (tE C own ma fa) (tE C own mb fb) (tE C own mc fc) σ H Q:=by
 obtain ⟨F,ρ,rp,h⟩:=h
 refine ⟨F,ρ,rp,Po.bind h fun v F1 H1 d ρ1 rp1 c1 mo1 h1=>⟨F1,ρ1,rp1,Po.bind h1 fun w F2 H2 e ρ2 rp2 c2 mo2 h2=>?_⟩⟩
 have oa:∀ x,OA own σ x->H x≠none:=fun x z=>(rp.OA_there z).1
 have oa1:∀ x,OA own σ x->H1 x≠none:=fun x z=>(rp1.OA_there z).1
 refine ⟨F2,d,e,rp2.sub,(mo1.grow hma c2 oa).top,mo2.top,PoV.bind (m:=.sh) rp2 h2 fun z F3 H3 dz rp3 c3 mo3 h3=>?_⟩
 cases dz with
 | bl k=>
  have mo3:Is C.K F3 z (.bl k):=mo3
  cases mo3
  refine ⟨k,rfl,?_⟩
  cases k with
  | true=>
   refine ⟨F3,ρ2,rp3,Po.bind h3 fun w' F4 H4 r ρ4 rp4 c4 mo4 h4=>?_⟩
   exact ⟨F4,e,r,rp4.sub,((mo2.grow hmb (c3.ofNo) oa1).grow hmb c4 oa1).top,mo4.top,PoV.of rp4 h4⟩
  | false=>exact h3 _ F3 H3 rp3 .refl (.bl _)
 | _=>exact h3.elim
theorem Wq {g:D->D->Out D} (ho:OpD X C .sh (compareOp op) g) (ho':OpD X C .sh (compareOp op') g') (ha:PE X a (tE C own ma fa)) (hb:PE X b (tE C own mb fb)) (hc:PE X c (tE C own mc fc)) (hma:ma≠.any:=by decide) (hmb:mb≠.any:=by decide)
  (hm:lastMarks [op,op'] [b,c]=false:=by with_unfolding_all rfl):PE X (.Compare a [op,op'] [b,c] pos) (tE C own .sh (yh g g' fa fb fc)):=jG (Go ho ho' ha hb hc hm) fun _ _ _ h=>Wp hma hmb h
theorem JP {g:D->D->Out D} (ho:OpD X C .sh (compareOp op) g) (ho':OpD X C .sh (compareOp op') g') (ha:PE X a (tE C own ma fa)) (hb:PE X b (tE C own mb fb)) (hc:PE X c (tE C own mc fc)) (hma:ma≠.any:=by decide) (hmb:mb≠.any:=by decide)
  (hm:lastMarks [op,op'] [b,c]=false:=by with_unfolding_all rfl):PT X (.Compare a [op,op'] [b,c] pos) (tT C own (jg (yh g g' fa fb fc))):=GA (Gp ho ho' ha hb hc hm) fun _ _ _ h=>Wp hma hmb (YQ h)
theorem YT:OpR X (compareOp .LtE) (fun x y H Q=>∃ i j,x=.str i/\y=.str j/\Q (.bl (!uN j i)) H):=by
 intro pins s σ H x y v u Q I rx ry h
 obtain ⟨i,j,rfl,rfl,q⟩:=h
 obtain ⟨t,rfl⟩:=rx
 obtain ⟨t',rfl⟩:=ry
 exact PySem.P.le_str (Yr I q (by simp [uN]))
noncomputable def leD:D->D->Out D
 | .int i,.int j=>.ok (.bl (decide (i<=j)))
 | .str x,.str y=>.ok (.bl (!uN y x))
 | _,_=>.bad
theorem JQ:OpD X C .sh (compareOp .LtE) leD:=by
 intro pins s σ H x y v u Q I rx ry h
 obtain ⟨F,dx,dy,sb,tx,ty,po⟩:=h
 cases dx <;> try exact po.elim
 ·cases dy <;> try exact po.elim
  obtain rfl:=tx.int
  obtain rfl:=ty.int
  exact qfZ pins s σ H _ _ v u Q I rx ry ⟨_,_,rfl,rfl,po _ F H sb .refl (.bl _)⟩
 ·cases dy <;> try exact po.elim
  obtain ⟨rfl,_⟩:=tx.str
  obtain ⟨rfl,_⟩:=ty.str
  exact YT pins s σ H _ _ v u Q I rx ry ⟨_,_,rfl,rfl,po _ F H sb .refl (.bl _)⟩
noncomputable def gtD:D->D->Out D:=vV fun i j=>.ok (.bl (decide (j < i)))
theorem qge:OpD X C .sh (compareOp .Gt) gtD:=Ve qf0 fun _ _ _=>.bl _
noncomputable def geD:D->D->Out D:=vV fun i j=>.ok (.bl (decide (j<=i)))
theorem qea:OpD X C .sh (compareOp .GtE) geD:=Ve qf1 fun _ _ _=>.bl _
noncomputable def GG:D->D->Out D
 | .non,.non=>.ok (.bl false)
 | .raw _,.non=>.bad
 | _,.non=>.ok (.bl true)
 | _,_=>.bad
theorem TopIs.notN (h:TopIs K F H v d) (h1:d≠.non) (h2:∀ u,d≠.raw u):v≠.non:=by
 rintro rfl
 rcases h with h | ⟨a,e,_⟩
 ·cases h
  ·exact h1 rfl
  ·exact h2 _ rfl
 ·cases e
theorem qb9:OpD X C .sh (compareOp .IsNot) GG:=by
 intro pins s σ H x y v u Q I rx ry h
 obtain ⟨F,dx,dy,sb,tx,ty,po⟩:=h
 have hy:dy=.non:=by cases dy <;> first | rfl | (cases dx <;> exact po.elim)
 subst hy
 obtain rfl:=ty.non
 refine qbU pins s σ H x .non v u Q I rx ry ⟨rfl,?_⟩
 cases dx with
 | non=>obtain rfl:=tx.non; exact po _ F H sb .refl (.bl _)
 | raw _=>exact po.elim
 | _=>rw [decide_eq_false (tx.notN (by intro z; cases z) (by intro _ z; cases z))]; exact po _ F H sb .refl (.bl _)
end
inductive Fl where
 | nx | rt (d:D) | bk | ct
structure Nx (C:Ct) (own own':List Nat) (σ:St) (F H:Hp) (ρ':Sl) (σ':St) (F' H':Hp):Prop where
 rep:Rep C.K own' F' H' σ' ρ'
 chg:Chg (OA own σ) F H F' H'
 oa:∀ b,OA own' σ' b->OA own σ b\/H b=none
 io:∀ i∈C.io,σ'[i]?=σ[i]?
def PoS (C:Ct) (own own':List Nat) (σ:St) (F H:Hp) (r:Out (Fl×Sl)) (D:Ends):Prop:=match r with
 | .ok (.nx,ρ')=>∀ σ' F' H',Nx C own own' σ F H ρ' σ' F' H'->D.nx σ' H'
 | .ok (.rt d,ρ')=>∀ v σ' F' H',Same F' H'->YJ C.K C.io F' H' σ' ρ'->Chg (OA own σ) F H F' H'->(∀ i∈C.io,σ'[i]?=σ[i]?)->MoIs C.K C.mr H F' H' v d->D.rt v H'
 | .ok (.bk,ρ')=>∀ σ' F' H',Nx C own C.ol σ F H ρ' σ' F' H'->D.bk σ' H'
 | .ok (.ct,ρ')=>∀ σ' F' H',Nx C own C.ol σ F H ρ' σ' F' H'->D.ct σ' H'
 | .exc c ρ'=>∀ F' H',Same F' H'->YJ C.K C.ox F' H' σ ρ'->Chg (OA own σ) F H F' H'->C.E (C.cv c) none H'
 | .bad=>False
def tSt (C:Ct) (own own':List Nat) (f:Sl->Out (Fl×Sl)):TS:=fun D σ H=>∃ F ρ,Rep C.K own F H σ ρ/\PoS C own own' σ F H (f ρ) D
variable {o1 o2 o3:List Nat} {σ1:St} {ρ1:Sl}
theorem Nx.then {σ2:St} {F2 H2:Hp} {ρ2:Sl} (a:Nx C o1 o2 σ F H ρ1 σ1 F1 H1) (b:Nx C o2 o3 σ1 F1 H1 ρ2 σ2 F2 H2):Nx C o1 o3 σ F H ρ2 σ2 F2 H2 where
 rep:=b.rep
 chg:=a.chg.trans b.chg a.oa
 oa:=fun x h=>by
  rcases b.oa x h with z | z
  ·exact a.oa x z
  ·refine .inr ?_
   cases q:H x with
   | none=>rfl
   | some o=>exact absurd z (a.chg.stay x (by rw [q]; simp))
 io:=fun i hi=>(b.io i hi).trans (a.io i hi)
theorem PoS.shift {r:Out (Fl×Sl)} {D:Ends} (h:PoS C o1 o3 σ F H r D) (a:Nx C o1 o2 σ F H ρ1 σ1 F1 H1):PoS C o2 o3 σ1 F1 H1 r D:=by
 cases r with
 | ok p=>
  obtain ⟨fl,ρ'⟩:=p
  cases fl with
  | nx=>exact fun σ' F' H' n=>h σ' F' H' (a.then n)
  | rt d=>exact fun v σ' F' H' s io c e mo=>h v σ' F' H' s io (a.chg.trans c a.oa) (fun i hi=>(e i hi).trans (a.io i hi)) (MoIs.back (Ha:=H1) a.chg mo)
  | bk=>exact fun σ' F' H' n=>h σ' F' H' (a.then n)
  | ct=>exact fun σ' F' H' n=>h σ' F' H' (a.then n)
 | exc c=>exact fun F' H' s io c'=>h F' H' s (fun i hi=>by
   obtain ⟨d,b,e1,e2,e3⟩:=io i hi
   exact ⟨d,b,e1,by rw [<-a.io i (C.oxs i hi)]; exact e2,e3⟩) (a.chg.trans c' a.oa)
 | bad=>exact h.elim
theorem Nx.ofE (r:Rep C.K own F1 H1 σ ρ1) (c:Chg (OA own σ) F H F1 H1):Nx C own own σ F H ρ1 σ F1 H1:=⟨r,c,fun _ h=>.inl h,fun _ _=>rfl⟩
variable {own':List Nat}
theorem PoS.bindE {m:Mo} {k:D×Sl->Out (Fl×Sl)} {D:Ends} {R:VK} (hp:PoS C own own' σ F H (o.bind k) D)
  (h:∀ v F1 H1 d ρ1,Rep C.K own F1 H1 σ ρ1->Chg (OA own σ) F H F1 H1->MoIs C.K m H F1 H1 v d->PoS C own own' σ F1 H1 (k (d,ρ1)) D->R v H1):Po C own m σ F H o R:=by
 cases o with
 | ok p=>
  obtain ⟨d,ρ1⟩:=p
  exact fun v F1 H1 rp c mo=>h v F1 H1 d ρ1 rp c mo (PoS.shift (show PoS C own own' σ F H (k (d,ρ1)) D from hp) (.ofE rp c))
 | exc x=>exact hp
 | bad=>exact hp.elim
theorem PoS.bindT {o:Out (Bool×Sl)} {k:Bool×Sl->Out (Fl×Sl)} {D:Ends} {R:Bool->Hp->Prop} (hp:PoS C own own' σ F H (o.bind k) D)
  (h:∀ F1 H1 b ρ1,Rep C.K own F1 H1 σ ρ1->Chg (OA own σ) F H F1 H1->PoS C own own' σ F1 H1 (k (b,ρ1)) D->R b H1):PoT C own σ F H o R:=by
 cases o with
 | ok p=>
  obtain ⟨d,ρ1⟩:=p
  exact fun F1 H1 rp c=>h F1 H1 d ρ1 rp c (PoS.shift (show PoS C own own' σ F H (k (d,ρ1)) D from hp) (.ofE rp c))
 | exc x=>exact hp
 | bad=>exact hp.elim
variable {b a:Addr} {t':TS} {st:Stmt} {fe:Sl->Out (D×Sl)} {i:Nat} {x:Str} {pos':Pos}
section
variable {sts rest:List Stmt} {f g:Sl->Out (Fl×Sl)}
theorem gz {t:TS} (h:PS X st t) (i:∀ D σ H,t' D σ H->t D σ H):PS X st t':=⟨fun pins s σ H D I hw=>h pins s σ H D I (i D σ H hw)⟩
theorem YU {t:TS} (h:PSs X sts t) (i:∀ D σ H,t' D σ H->t D σ H):PSs X sts t':=⟨fun pins s σ H D I hw=>h pins s σ H D I (i D σ H hw)⟩
noncomputable def jN:Sl->Out (Fl×Sl):=fun ρ=>.ok (.nx,ρ)
noncomputable def qW (f g:Sl->Out (Fl×Sl)):Sl->Out (Fl×Sl):=fun ρ=>(f ρ).bind fun p=>match p.1 with
 | .nx=>g p.2
 | fl=>.ok (fl,p.2)
theorem Nx.refl (r:Rep C.K own F H σ ρ):Nx C own own σ F H ρ σ F H:=.ofE r .refl
theorem jb:PSs X [] (tSt C own own jN):=YU Ym fun D σ H ⟨F,ρ,rp,h⟩=>h σ F H (.refl rp)
theorem qeb {D:Ends} (h:tSt C o1 o3 (qW f g) D σ H):tSt C o1 o2 f { D with nx:=tSt C o2 o3 g D } σ H:=by
 obtain ⟨F,ρ,rp,h⟩:=h
 refine ⟨F,ρ,rp,?_⟩
 unfold qW at h
 cases q:f ρ with
 | ok p=>
  rw [q] at h
  obtain ⟨fl,ρ1⟩:=p
  cases fl with
  | nx=>exact fun σ' F' H' n=>⟨F',ρ1,n.rep,PoS.shift (show PoS C o1 o3 σ F H (g ρ1) D from h) n⟩
  | rt d=>exact h
  | bk=>exact h
  | ct=>exact h
 | exc c=>rw [q] at h; exact h
 | bad=>rw [q] at h; exact h.elim
theorem ql (h1:PS X st (tSt C o1 o2 f)) (h2:PSs X rest (tSt C o2 o3 g)):PSs X (st::rest) (tSt C o1 o3 (qW f g)):=YU (Gj h1 h2) fun D σ H h=>qeb h
theorem qo (h1:PS X st (tSt C o1 o2 f)):PSs X [st] (tSt C o1 o2 f):=qbO h1
theorem Rep.weak {K:Frag} {F H:Hp} {σ:St} {ρ:Sl}:∀ (drop:List Nat) {own own':List Nat},(∀ i,i∈own'↔i∈own/\i∉drop)->Rep K own F H σ ρ->∃ F',Rep K own' F' H σ ρ/\Chg (OA own σ) F H F' H
 | [],own,own',hs,rp=>⟨F,⟨rp.sub,rp.len,fun i d hi=>rp.val i d fun z=>hi ((hs i).mpr ⟨z,by simp⟩),fun i d hi=>rp.ow i d ((hs i).mp hi).1,fun i hi=>rp.opn i ((hs i).mp hi).1,fun i j a hi hj=>rp.dis i j a ((hs i).mp hi).1 ((hs j).mp hj).1⟩,.refl⟩
 | k::r,own,own',hs,rp=>by
  obtain ⟨F1,rp1,c1⟩:=Rep.weak r (own:=own) (own':=own.filter fun i=>decide (i∉r)) (fun i=>by simp) rp
  by_cases hk:k∈own/\k∉r
  ·obtain ⟨d,hd⟩:=rp1.opn k (by simp [hk.1,hk.2])
   obtain ⟨a,h1,h2,h3⟩:=rp1.ow k d (by simp [hk.1,hk.2]) hd
   obtain ⟨u,hu⟩:∃ u,H a=some u:=by
    cases q:H a with
    | none=>exact absurd q h3.there
    | some u=>exact ⟨u,rfl⟩
   have gr:Same F1 (upd F1 a u):=fun b w e=>by rw [qB (qI e h2)]; exact e
   refine ⟨upd F1 a u,⟨fun b w e=>?_,rp1.len,fun i d' hi e=>?_,fun i d' hi e=>?_,fun i hi=>?_,fun i j b hi hj=>?_⟩,?_⟩
   ·by_cases q:b=a
    ·subst q; rw [qr] at e; cases e; exact hu
    ·rw [qB q] at e; exact rp1.sub b w e
   ·by_cases q:i=k
    ·subst q
     rw [hd] at e; cases e
     refine ⟨_,h1,?_⟩
     cases d with
     | lst ds=>obtain ⟨xs,e,t⟩:=h3; rw [hu] at e; cases e; exact .lst (.inl (.inl qr)) (t.mono gr)
     | dct ds=>obtain ⟨xs,e,t⟩:=h3; rw [hu] at e; cases e; exact .dct qr (t.mono gr)
     | ins C fs=>obtain ⟨dx,xs,e,t⟩:=h3; rw [hu] at e; cases e; exact .ins qr (t.mono gr)
     | at_ b ds=>obtain ⟨eb,xs,e,t⟩:=h3; rw [hu] at e; cases e; subst eb; exact .at_ (.inl (.inl qr)) (t.mono gr)
     | _=>exact h3.elim
    ·obtain ⟨v,q1,q2⟩:=rp1.val i d' (fun z=>by simp at z; exact hi ((hs i).mpr ⟨z.1,by simp [q,z.2]⟩)) e
     exact ⟨v,q1,q2.mono gr⟩
   ·have hi':=(hs i).mp hi
    have hik:i≠k:=fun z=>hi'.2 (by simp [z])
    have hir:i∉r:=fun z=>hi'.2 (by simp [z])
    obtain ⟨b,q1,q2,q3⟩:=rp1.ow i d' (by simp [hi'.1,hir]) e
    refine ⟨b,q1,?_,q3.grow gr fun _ z=>z⟩
    have nb:b≠a:=fun z=>by subst z; exact hik (rp1.dis i k b (by simp [hi'.1,hir]) (by simp [hk.1,hk.2]) q1 h1)
    rw [qB nb]; exact q2
   ·have hi':=(hs i).mp hi
    exact rp1.opn i (by simp [hi'.1]; exact fun z=>hi'.2 (by simp [z]))
   ·have hi':=(hs i).mp hi
    have hj':=(hs j).mp hj
    exact rp1.dis i j b (by simp [hi'.1]; exact fun z=>hi'.2 (by simp [z])) (by simp [hj'.1]; exact fun z=>hj'.2 (by simp [z]))
   ·refine ⟨c1.keep,c1.stay,c1.grow.trans gr,fun b hb=>?_⟩
    by_cases q:b=a
    ·exact .inr (.inr ⟨k,hk.1,by rw [q]; exact h1⟩)
    ·rw [qB q] at hb; exact c1.new b hb
  ·refine ⟨F1,⟨rp1.sub,rp1.len,fun i d hi=>rp1.val i d fun z=>?_,fun i d hi=>rp1.ow i d ?_,fun i hi=>rp1.opn i ?_,fun i j a hi hj=>rp1.dis i j a ?_ ?_⟩,c1⟩
   ·simp at z
    refine hi ((hs i).mpr ⟨z.1,?_⟩)
    simp only [ac,not_or]
    exact ⟨fun q=>hk (by subst q; exact z),z.2⟩
   all_goals
    first
     | (have q:=(hs _).mp hi; simp only [bK,decide_eq_true_eq]; exact ⟨q.1,fun z=>q.2 (by simp [z])⟩)
     | (have q:=(hs _).mp hj; simp only [bK,decide_eq_true_eq]; exact ⟨q.1,fun z=>q.2 (by simp [z])⟩)
theorem OA.sub (h:∀ i∈own',i∈own) (q:OA own' σ b):OA own σ b:=let ⟨i,hi,e⟩:=q; ⟨i,h i hi,e⟩
theorem Nx.drop (drop:List Nat) (hs:∀ i,i∈own'↔i∈own/\i∉drop) (rp:Rep C.K own F H σ ρ):∃ F',Nx C own own' σ F H ρ σ F' H:=by
 obtain ⟨F',rp',c⟩:=Rep.weak drop hs rp
 exact ⟨F',rp',c,fun b q=>.inl (OA.sub (fun i hi=>((hs i).mp hi).1) q),fun _ _=>rfl⟩
noncomputable def wF (own drop:List Nat):List Nat:=own.filter fun i=>decide (i∉drop)
theorem je {own drop:List Nat} (i:Nat):i∈wF own drop↔i∈own/\i∉drop:=by simp [wF]
theorem kH (drop:List Nat) (h:PSs X sts (tSt C (wF own drop) o2 f)):PSs X sts (tSt C own o2 f):=YU h fun D σ H ⟨F,ρ,rp,h⟩=>by
 obtain ⟨F',n⟩:=Nx.drop (C:=C) drop (fun i=>je (own:=own) i) rp
 exact ⟨F',ρ,n.rep,h.shift n⟩
noncomputable def sIf (ft:Sl->Out (Bool×Sl)) (f g:Sl->Out (Fl×Sl)):Sl->Out (Fl×Sl):=fun ρ=>(ft ρ).bind fun p=>if p.1=true then f p.2 else g p.2
theorem jA {a b:List Stmt} (hc:PT X c (tT C own ft)) (ha:PSs X a (tSt C own own' f)) (hb:PSs X b (tSt C own own' g)):PS X (.If c a b pos) (tSt C own own' (sIf ft f g)):=by
 refine gz (qfR hc ha hb) fun D σ H ⟨F,ρ,rp,h⟩=>⟨F,ρ,rp,PoS.bindT h fun F1 H1 k ρ1 rp1 c1 h1=>?_⟩
 cases k with
 | true=>exact ⟨F1,ρ1,rp1,h1⟩
 | false=>exact ⟨F1,ρ1,rp1,h1⟩
noncomputable def kD (fe:Sl->Out (D×Sl)):Sl->Out (Fl×Sl):=fun ρ=>(fe ρ).bind fun p=>.ok (.nx,p.2)
theorem ju (he:PE X e (tE C own m fe)) (hs:swapsWith e none pos.line X.env=pure false:=by rfl):PS X (.Expr e pos) (tSt C own own (kD fe)):=by
 refine gz (qbP he hs) fun D σ H ⟨F,ρ,rp,h⟩=>⟨F,ρ,rp,PoS.bindE h fun v F1 H1 d ρ1 rp1 c1 mo1 h1=>h1 σ F1 H1 (.refl rp1)⟩
noncomputable def jL (fe:Sl->Out (D×Sl)):Sl->Out (Fl×Sl):=fun ρ=>(fe ρ).bind fun p=>.ok (.rt p.1,p.2)
theorem qca (he:PE X e (tE C own C.mr fe)) (hio:∀ i∈C.io,i∈own:=by exact wK rfl):PS X (.Return (some e) pos) (tSt C own own' (jL fe)):=by
 refine gz (qdF he) fun D σ H ⟨F,ρ,rp,h⟩=>⟨F,ρ,rp,?_⟩
 unfold jL at h
 cases q:fe ρ with
 | ok p=>
  rw [q] at h
  obtain ⟨d,ρ1⟩:=p
  exact fun v F1 H1 rp1 c1 mo1=>h v σ F1 H1 rp1.sub (rp1.ioIs hio) c1 (fun _ _=>rfl) mo1
 | exc c=>rw [q] at h; exact h
 | bad=>rw [q] at h; exact h.elim
theorem qp (he:PE X e (tE C own m fe)) (hm:m≠.any:=by decide) (hr:C.mr=.sh:=by rfl) (hio:∀ i∈C.io,i∈own:=by exact wK rfl):PS X (.Return (some e) pos) (tSt C own own' (jL fe)):=qca (by rw [hr]; exact uM he hm) hio
theorem Rep.put (rp:Rep K own F H σ ρ) (hi:i < ρ.length) (is:Is K F v d):Rep K (wF own [i]) F H (σ.set i (some v)) (ρ.set i (some d)) where
 sub:=rp.sub
 len:=by simp [rp.len]
 val:=fun j d' hj e=>by
  by_cases q:j=i
  ·subst q
   rw [aE hi] at e
   cases e
   exact ⟨v,aE (by rw [rp.len]; exact hi),is⟩
  ·rw [aq (aU q)] at e
   obtain ⟨w,h1,h2⟩:=rp.val j d' (fun z=>hj ((je j).mpr ⟨z,by simp [q]⟩)) e
   exact ⟨w,by rw [aq (aU q)]; exact h1,h2⟩
 ow:=fun j d' hj e=>by
  have hj':=(je j).mp hj
  have q:j≠i:=fun z=>hj'.2 (by simp [z])
  rw [aq (aU q)] at e
  obtain ⟨a,h1,h2⟩:=rp.ow j d' hj'.1 e
  exact ⟨a,by rw [aq (aU q)]; exact h1,h2⟩
 opn:=fun j hj=>by
  have hj':=(je j).mp hj
  have q:j≠i:=fun z=>hj'.2 (by simp [z])
  obtain ⟨d',e⟩:=rp.opn j hj'.1
  exact ⟨d',by rw [aq (aU q)]; exact e⟩
 dis:=fun j k a hj hk e1 e2=>by
  have hj':=(je j).mp hj
  have hk':=(je k).mp hk
  rw [aq (fun z=>hj'.2 (by simp [z]))] at e1
  rw [aq (fun z=>hk'.2 (by simp [z]))] at e2
  exact rp.dis j k a hj'.1 hk'.1 e1 e2
theorem OA.put (h:OA (wF own [i]) (σ.set i (some v)) b):OA own σ b:=by
 obtain ⟨j,hj,e⟩:=h
 have hj':=(je j).mp hj
 rw [aq (fun z=>hj'.2 (by simp [z]))] at e
 exact ⟨j,hj'.1,e⟩
noncomputable def jE (i:Nat) (fe:Sl->Out (D×Sl)):Sl->Out (Fl×Sl):=fun ρ=>(fe ρ).bind fun p=>if i < p.2.length then .ok (.nx,p.2.set i (some p.1)) else .bad
theorem qK (hN:X.N.Nodup) (hi:X.N[i]?=some x) (hx:Loc X.env.scope x) (he:PE X e (tE C own m fe)) (hm:m≠.any:=by decide) (hio:i∉C.io:=by exact Wg rfl) (hs:swapsWith e (some (.Name x pos')) pos.line X.env=pure false:=by rfl)
  (hf:X.fn x=true\/X.env.scope.names.lookup x=some .local:=by first | exact .inl rfl | exact .inr rfl):PS X (.Assign [.Name x pos'] e pos) (tSt C own (wF own [i]) (jE i fe)):=by
 refine gz (qa9 hN hi hx (uM he hm) hs hf) fun D σ H ⟨F,ρ,rp,h⟩=>⟨F,ρ,rp,PoS.bindE h fun v F1 H1 d ρ1 rp1 c1 mo1 h1=>?_⟩
 by_cases q:i < ρ1.length
 ·have h1:PoS C own (wF own [i]) σ F1 H1 (if i < ρ1.length then .ok (.nx,ρ1.set i (some d)) else .bad) D:=h1
  rw [if_pos q] at h1
  exact h1 _ F1 H1 ⟨rp1.put q mo1,.refl,fun b z=>.inl (OA.put z),fun j hj=>aq fun z=>hio (by rw [z]; exact hj)⟩
 ·have h1:PoS C own (wF own [i]) σ F1 H1 (if i < ρ1.length then .ok (.nx,ρ1.set i (some d)) else .bad) D:=h1
  rw [if_neg q] at h1
  exact h1.elim
theorem Rep.putO (rp:Rep K own F H σ ρ) (hi:i < ρ.length) (hF:F a=none) (nA:¬OA own σ a) (o:OwnIs K F H a d):Rep K (i::wF own [i]) F H (σ.set i (some (.ref a))) (ρ.set i (some d)) where
 sub:=rp.sub
 len:=by simp [rp.len]
 val:=fun j d' hj e=>by
  have q:j≠i:=fun z=>hj (by simp [z])
  rw [aq (aU q)] at e
  obtain ⟨w,h1,h2⟩:=rp.val j d' (fun z=>hj (aa _ ((je j).mpr ⟨z,by simp [q]⟩))) e
  exact ⟨w,by rw [aq (aU q)]; exact h1,h2⟩
 ow:=fun j d' hj e=>by
  by_cases q:j=i
  ·subst q
   rw [aE hi] at e
   cases e
   exact ⟨a,aE (by rw [rp.len]; exact hi),hF,o⟩
  ·have hj':=(je j).mp ((ac.mp hj).resolve_left q)
   rw [aq (aU q)] at e
   obtain ⟨b,h1,h2⟩:=rp.ow j d' hj'.1 e
   exact ⟨b,by rw [aq (aU q)]; exact h1,h2⟩
 opn:=fun j hj=>by
  by_cases q:j=i
  ·subst q; exact ⟨d,aE hi⟩
  ·have hj':=(je j).mp ((ac.mp hj).resolve_left q)
   obtain ⟨d',e⟩:=rp.opn j hj'.1
   exact ⟨d',by rw [aq (aU q)]; exact e⟩
 dis:=fun j k b hj hk e1 e2=>by
  have iσ:i < σ.length:=by rw [rp.len]; exact hi
  by_cases qj:j=i
  ·by_cases qk:k=i
   ·rw [qj,qk]
   ·subst qj
    have hk':=(je k).mp ((ac.mp hk).resolve_left qk)
    rw [aE iσ] at e1
    cases e1
    rw [aq (aU qk)] at e2
    exact absurd ⟨k,hk'.1,e2⟩ nA
  ·have hj':=(je j).mp ((ac.mp hj).resolve_left qj)
   by_cases qk:k=i
   ·subst qk
    rw [aE iσ] at e2
    cases e2
    rw [aq (aU qj)] at e1
    exact absurd ⟨j,hj'.1,e1⟩ nA
   ·have hk':=(je k).mp ((ac.mp hk).resolve_left qk)
    rw [aq (aU qj)] at e1
    rw [aq (aU qk)] at e2
    exact rp.dis j k b hj'.1 hk'.1 e1 e2
theorem jM (hN:X.N.Nodup) (hi:X.N[i]?=some x) (hx:Loc X.env.scope x) (he:PE X e (tE C own .fr fe)) (hio:i∉C.io:=by exact Wg rfl) (hs:swapsWith e (some (.Name x pos')) pos.line X.env=pure false:=by rfl)
  (hf:X.fn x=true\/X.env.scope.names.lookup x=some .local:=by first | exact .inl rfl | exact .inr rfl):PS X (.Assign [.Name x pos'] e pos) (tSt C own (i::wF own [i]) (jE i fe)):=by
 refine gz (qa9 hN hi hx he hs hf) fun D σ H ⟨F,ρ,rp,h⟩=>⟨F,ρ,rp,?_⟩
 unfold jE at h
 cases q:fe ρ with
 | ok p=>
  rw [q] at h
  obtain ⟨d,ρ1⟩:=p
  intro v F1 H1 rp1 c1 mo1
  obtain ⟨a,rfl,h0,hF,o⟩:=mo1
  by_cases z:i < ρ1.length
  ·have h1:PoS C own (i::wF own [i]) σ F H (if i < ρ1.length then .ok (.nx,ρ1.set i (some d)) else .bad) D:=h
   rw [if_pos z] at h1
   refine h1 _ F1 H1 ⟨rp1.putO z hF (fun y=>(rp.OA_there y).1 h0) o,c1,fun b y=>?_,fun j hj=>aq fun y=>hio (by rw [y]; exact hj)⟩
   obtain ⟨j,hj,e⟩:=y
   by_cases qj:j=i
   ·subst qj
    rw [aE (by rw [rp1.len]; exact z)] at e
    cases e
    exact .inr h0
   ·have hj':=(je j).mp ((ac.mp hj).resolve_left qj)
    rw [aq (aU qj)] at e
    exact .inl ⟨j,hj'.1,e⟩
  ·have h1:PoS C own (i::wF own [i]) σ F H (if i < ρ1.length then .ok (.nx,ρ1.set i (some d)) else .bad) D:=h
   rw [if_neg z] at h1
   exact h1.elim
 | exc c=>rw [q] at h; exact h
 | bad=>rw [q] at h; exact h.elim
end
inductive AK where
 | vl | sl (i:Nat) | fr
 deriving DecidableEq
def ArgV (K:Frag) (H0 F H:Hp) (σ:St):List AK->List V->List D->Prop
 | [],[],[]=>True
 | .vl::as,v::vs,d::ds=>Is K F v d/\ArgV K H0 F H σ as vs ds
 | .sl i::as,v::vs,d::ds=>σ[i]?=some (some v)/\d=.non/\ArgV K H0 F H σ as vs ds
 | .fr::as,v::vs,d::ds=>MoIs K .fr H0 F H v d/\ArgV K H0 F H σ as vs ds
 | _,_,_=>False
variable {H0 F' H':Hp}
theorem ArgV.grow {A:Addr->Prop} (c:Chg A F H F' H') (hA:∀ x,A x->H0 x≠none):∀ {as:List AK} {vs:List V} {ds:List D},ArgV K H0 F H σ as vs ds->ArgV K H0 F' H' σ as vs ds
 | [],[],[],h=>trivial
 | .vl::as,v::vs,d::ds,h=>⟨h.1.mono c.grow,ArgV.grow c hA h.2⟩
 | .sl i::as,v::vs,d::ds,h=>⟨h.1,h.2.1,ArgV.grow c hA h.2.2⟩
 | .fr::as,v::vs,d::ds,h=>⟨h.1.grow (by decide) c hA,ArgV.grow c hA h.2⟩
 | [],_::_,_,h=>h.elim
 | [],[],_::_,h=>h.elim
 | .vl::_,[],_,h=>h.elim
 | .vl::_,_::_,[],h=>h.elim
 | .sl _::_,[],_,h=>h.elim
 | .sl _::_,_::_,[],h=>h.elim
 | .fr::_,[],_,h=>h.elim
 | .fr::_,_::_,[],h=>h.elim
theorem ArgV.back {A:Addr->Prop} {F0:Hp} (c:Chg A F0 H0 F1 H1):∀ {as:List AK} {vs:List V} {ds:List D},ArgV K H1 F H σ as vs ds->ArgV K H0 F H σ as vs ds
 | [],[],[],h=>trivial
 | .vl::as,v::vs,d::ds,h=>⟨h.1,ArgV.back c h.2⟩
 | .sl i::as,v::vs,d::ds,h=>⟨h.1,h.2.1,ArgV.back c h.2.2⟩
 | .fr::as,v::vs,d::ds,h=>⟨MoIs.back (Ha:=H1) c h.1,ArgV.back c h.2⟩
 | [],_::_,_,h=>h.elim
 | [],[],_::_,h=>h.elim
 | .vl::_,[],_,h=>h.elim
 | .vl::_,_::_,[],h=>h.elim
 | .sl _::_,[],_,h=>h.elim
 | .sl _::_,_::_,[],h=>h.elim
 | .fr::_,[],_,h=>h.elim
 | .fr::_,_::_,[],h=>h.elim
def PoA (C:Ct) (own:List Nat) (as:List AK) (σ:St) (F H:Hp) (r:Out (List D×Sl)) (Q:List V->Hp->Prop):Prop:=match r with
 | .ok (ds,ρ')=>∀ vs F' H',Rep C.K own F' H' σ ρ'->Chg (OA own σ) F H F' H'->ArgV C.K H F' H' σ as vs ds->Q vs H'
 | .exc c ρ'=>∀ F' H',Same F' H'->YJ C.K C.ox F' H' σ ρ'->Chg (OA own σ) F H F' H'->C.E (C.cv c) none H'
 | .bad=>False
def tAr (C:Ct) (own:List Nat) (as:List AK) (f:Sl->Out (List D×Sl)):TA:=fun σ H Q=>∃ F ρ,Rep C.K own F H σ ρ/\PoA C own as σ F H (f ρ) Q
variable {as:List AK}
theorem PoA.bindV {ma:Mo} {k:D×Sl->Out (List D×Sl)} {Q:List V->Hp->Prop} {R:VK} (hp:PoA C own as σ F H (o.bind k) Q)
  (h:∀ v F1 H1 d ρ1,Rep C.K own F1 H1 σ ρ1->Chg (OA own σ) F H F1 H1->MoIs C.K ma H F1 H1 v d->PoA C own as σ F H (k (d,ρ1)) Q->R v H1):Po C own ma σ F H o R:=by
 cases o with
 | ok p=>
  obtain ⟨d,ρ1⟩:=p
  exact fun v F1 H1 rp c mo=>h v F1 H1 d ρ1 rp c mo hp
 | exc x=>exact hp
 | bad=>exact hp.elim
theorem Po.bindA {as:List AK} {o:Out (List D×Sl)} {k:List D×Sl->Out (D×Sl)} {Q:VK} {R:List V->Hp->Prop} (hp:Po C own m σ F H (o.bind k) Q)
  (h:∀ vs F1 H1 ds ρ1,Rep C.K own F1 H1 σ ρ1->Chg (OA own σ) F H F1 H1->ArgV C.K H F1 H1 σ as vs ds->Po C own m σ F1 H1 (k (ds,ρ1)) Q->R vs H1):PoA C own as σ F H o R:=by
 cases o with
 | ok p=>
  obtain ⟨d,ρ1⟩:=p
  exact fun vs F1 H1 rp c av=>h vs F1 H1 d ρ1 rp c av (Po.shift (show Po C own m σ F H (k (d,ρ1)) Q from hp) c)
 | exc x=>exact hp
 | bad=>exact hp.elim
noncomputable def qC:Sl->Out (List D×Sl):=fun ρ=>.ok ([],ρ)
noncomputable def qd (fe:Sl->Out (D×Sl)) (fr:Sl->Out (List D×Sl)):Sl->Out (List D×Sl):=fun ρ=>(fe ρ).bind fun p=>(fr p.2).bind fun q=>.ok (p.1::q.1,q.2)
noncomputable def jO (fr:Sl->Out (List D×Sl)):Sl->Out (List D×Sl):=fun ρ=>(fr ρ).bind fun q=>.ok (D.non::q.1,q.2)
variable {es:List Expr} {p:Addr} {u:HO}
section
variable {fr:Sl->Out (List D×Sl)}
theorem qcb {t t':TA} (h:PA X es t) (i:∀ σ H Q,t' σ H Q->t σ H Q):PA X es t':=⟨fun pos pins s σ H Q I hw=>h pos pins s σ H Q I (i σ H Q hw)⟩
theorem qg:PA X [] (tAr C own [] qC):=qcb jz fun σ H Q ⟨F,ρ,rp,h⟩=>h [] F H rp .refl trivial
theorem JR {a:AK} {Q:List V->Hp->Prop} {v:V} (rp:∀ x,OA own σ x->H x≠none) (rp1:Rep C.K own F1 H1 σ ρ1) (c1:Chg (OA own σ) F H F1 H1) (hp:PoA C own (a::as) σ F H ((fr ρ1).bind fun q=>.ok (d::q.1,q.2)) Q)
  (ha:∀ F2 H2 vs ds,Chg (OA own σ) F1 H1 F2 H2->ArgV C.K H F2 H2 σ as vs ds->ArgV C.K H F2 H2 σ (a::as) (v::vs) (d::ds)):tAr C own as fr σ H1 fun xs H2=>Q (v::xs) H2:=by
 refine ⟨F1,ρ1,rp1,?_⟩
 cases q:fr ρ1 with
 | ok p=>
  rw [q] at hp
  obtain ⟨ds,ρ2⟩:=p
  exact fun vs F2 H2 rp2 c2 av=>hp (v::vs) F2 H2 rp2 (c1.trans' c2) (ha F2 H2 vs ds c2 (ArgV.back c1 av))
 | exc c=>rw [q] at hp; exact fun F' H' s io c'=>hp F' H' s io (c1.trans' c')
 | bad=>rw [q] at hp; exact hp.elim
theorem qc (ha:PE X e (tE C own m fe)) (hr:PA X es (tAr C own as fr)) (hm:m≠.any:=by decide) (hs:starEach (e::es) X.env=(false,eval e X.env)::starEach es X.env:=by exact jU rfl):PA X (e::es) (tAr C own (.vl::as) (qd fe fr)):=by
 refine qcb (qS (uM ha hm) hr hs) fun σ H Q ⟨F,ρ,rp,h⟩=>⟨F,ρ,rp,PoA.bindV h fun v F1 H1 d ρ1 rp1 c1 mo1 h1=>?_⟩
 exact JR (fun x z=>(rp.OA_there z).1) rp1 c1 h1 fun F2 H2 vs ds c2 av=>⟨Is.mono c2.grow mo1,av⟩
theorem qY {px:Pos} (hN:X.N[i]?=some x) (hv:Vis X.env.scope x) (ho:i∈own) (hr:PA X es (tAr C own as fr)) (hs:starEach (.Name x px::es) X.env=(false,eval (.Name x px) X.env)::starEach es X.env:=by rfl)
  (hd:(x == ("__debug__":Str))=false:=by decide) (hcd:(x == ("__classdict__":Str))=false:=by decide):PA X (.Name x px::es) (tAr C own (.sl i::as) (jO fr)):=by
 refine qcb (qS (uD hN hv hd hcd) hr hs) fun σ H Q ⟨F,ρ,rp,h⟩=>?_
 obtain ⟨d,hd⟩:=rp.opn i ho
 obtain ⟨a,h1,h2,h3⟩:=rp.ow i d ho hd
 exact ⟨_,h1,JR (fun x z=>(rp.OA_there z).1) rp .refl h fun F2 H2 vs ds c2 av=>⟨h1,rfl,av⟩⟩
theorem ArgV.isL:∀ {as:List AK} {vs:List V} {ds:List D},(as.all fun a=>decide (a=.vl))=true->ArgV K H0 F H σ as vs ds->IsL K F vs ds
 | [],[],[],_,_=>.nil
 | .vl::as,v::vs,d::ds,h,a=>.cons a.1 (ArgV.isL (by simpa using h) a.2)
 | .sl i::as,_,_,h,a=>by simp at h
 | .fr::as,_,_,h,a=>by simp at h
 | [],_::_,_,_,h=>h.elim
 | [],[],_::_,_,h=>h.elim
 | .vl::_,[],_,_,h=>h.elim
 | .vl::_,_::_,[],_,h=>h.elim
noncomputable def vj (fr:Sl->Out (List D×Sl)):Sl->Out (D×Sl):=fun ρ=>(fr ρ).bind fun p=>if p.1.length<=sizeLine then .ok (.tup p.1,p.2) else .bad
noncomputable def wL (fr:Sl->Out (List D×Sl)):Sl->Out (D×Sl):=fun ρ=>(fr ρ).bind fun p=>if p.1.length<=sizeLine then .ok (.lst p.1,p.2) else .bad
theorem qec (rp:Rep C.K own F H σ ρ) (hp:H p=none):Rep C.K own (upd F p u) (upd H p u) σ ρ/\Chg No F H (upd F p u) (upd H p u):=by
 have hF:F p=none:=by
  cases q:F p with
  | none=>rfl
  | some o=>rw [rp.sub p o q] at hp; cases hp
 have c:Chg No F H (upd F p u) (upd H p u):=⟨fun b o e _=>by rw [qB (qI e hp)]; exact e,fun b e=>by
  by_cases q:b=p
  ·rw [q,qr]; simp
  ·rw [qB q]; exact e,fun b o e=>by rw [qB (qI e hF)]; exact e,fun b e=>by
  by_cases q:b=p
  ·exact .inr (.inl (by rw [q]; exact hp))
  ·rw [qB q] at e; exact .inl e⟩
 refine ⟨rp.grow c fun b o e=>?_,c⟩
 by_cases q:b=p
 ·subst q; rw [qr] at e ⊢; exact e
 ·rw [qB q] at e ⊢; exact rp.sub b o e
theorem YV (rp:Rep C.K own F H σ ρ) (hp:H p=none):Rep C.K own F (upd H p u) σ ρ/\Chg No F H F (upd H p u)/\F p=none:=by
 have hF:F p=none:=by
  cases q:F p with
  | none=>rfl
  | some o=>rw [rp.sub p o q] at hp; cases hp
 have c:Chg No F H F (upd H p u):=⟨fun b o e _=>by rw [qB (qI e hp)]; exact e,fun b e=>by
  by_cases q:b=p
  ·rw [q,qr]; simp
  ·rw [qB q]; exact e,Same.refl _,fun b e=>.inl e⟩
 exact ⟨rp.grow c fun b o e=>by rw [qB (qI e hF)]; exact rp.sub b o e,c,hF⟩
theorem jQ {x1} (h:PA X es (tAr C own as fr)) (ha:(as.all fun a=>decide (a=.vl))=true:=by decide):PE X (.Tuple es x1 pos) (tE C own .sh (vj fr)):=by
 refine jG (qdS h) fun σ H Q ⟨F,ρ,rp,h⟩=>⟨F,ρ,rp,Po.bindA h fun vs F1 H1 ds ρ1 rp1 c1 av h1=>?_⟩
 have il:=av.isL ha
 have h1:Po C own .sh σ F1 H1 (if ds.length<=sizeLine then .ok (.tup ds,ρ1) else .bad) Q:=h1
 by_cases z:ds.length<=sizeLine
 ·rw [if_pos z] at h1
  refine ⟨by rw [il.length]; exact z,fun p hp=>?_⟩
  obtain ⟨rp2,c2⟩:=qec (u:=.tup vs) rp1 hp
  exact h1 _ _ _ rp2 c2.ofNo (.tup (.inl (.inl qr)) (il.mono c2.grow))
 ·rw [if_neg z] at h1; exact h1.elim
theorem jB (h:PA X es (tAr C own as fr)) (ha:(as.all fun a=>decide (a=.vl))=true:=by decide):PE X (.List es pos) (tE C own .fr (wL fr)):=by
 refine jG (qdT h) fun σ H Q ⟨F,ρ,rp,h⟩=>⟨F,ρ,rp,Po.bindA h fun vs F1 H1 ds ρ1 rp1 c1 av h1=>?_⟩
 have il:=av.isL ha
 have h1:Po C own .fr σ F1 H1 (if ds.length<=sizeLine then .ok (.lst ds,ρ1) else .bad) Q:=h1
 by_cases z:ds.length<=sizeLine
 ·rw [if_pos z] at h1
  refine ⟨by rw [il.length]; exact z,fun p hp=>?_⟩
  obtain ⟨rp2,c2,hF⟩:=YV (u:=.lst vs) rp1 hp
  exact h1 _ _ _ rp2 c2.ofNo ⟨p,rfl,hp,hF,vs,qr,il⟩
 ·rw [if_neg z] at h1; exact h1.elim
theorem Qj:PE X (.Dict [] [] pos) (tE C own .fr (dC (.dct []))):=by
 refine jG Gy fun σ H Q ⟨F,ρ,rp,h⟩ p hp=>?_
 obtain ⟨rp2,c2,hF⟩:=YV (u:=.dK []) rp hp
 exact h _ _ _ rp2 c2.ofNo ⟨p,rfl,hp,hF,[],qr,.nil⟩
noncomputable def ixD:D->D->Out D
 | .lst xs,.int i=>match atI xs i with
  | some d=>.ok d
  | none=>.bad
 | .tup xs,.int i=>match atI xs i with
  | some d=>.ok d
  | none=>.bad
 | .str x,.int i=>match atI x.cps.toList i with
  | some c=>.ok (.str ⟨#[c]⟩)
  | none=>.bad
 | .dct kvs,.str x=>match (kvs.find? fun kv=>decide (kv.1=bj x)) with
  | some kv=>.ok kv.2
  | none=>.bad
 | .dct kvs,.int x=>match (kvs.find? fun kv=>decide (kv.1=d4 x)) with
  | some kv=>.ok kv.2
  | none=>.bad
 | _,_=>.bad
theorem IsL.atI {i:Int} (h:IsL K F vs ds) (e:L2.atI ds i=some d):∃ v,L2.atI vs i=some v/\Is K F v d:=by
 unfold L2.atI at e ⊢
 rw [h.length]
 cases q:ixN ds.length i with
 | none=>rw [q] at e; cases e
 | some j=>
  rw [q] at e
  exact h.getD e
theorem IsK.find {k:Key}:∀ {vs:List (Key×V)} {ds:List (Key×D)} {d:Key×D},IsK K F vs ds->(ds.find? fun kv=>decide (kv.1=k))=some d->∃ v,KQ vs k=some v/\Is K F v d.2
 | _,_,_,.nil,e=>by simp at e
 | _,_,d,.cons (k:=k') (vs:=vs) h t,e=>by
  by_cases q:k'=k
  ·rw [bC (by simp [q])] at e
   cases e
   exact ⟨_,xT q,h⟩
  ·rw [bt (by simp [q])] at e
   obtain ⟨v,h1,h2⟩:=IsK.find t e
   exact ⟨v,by rw [ye q]; exact h1,h2⟩
theorem Wr (c:Nat):(⟨#[c]⟩:Str).length<=sizeLine:=by
 show 1<=sizeLine
 rw [sizeLine_eq]; decide
def qg1 (K:Frag):R2:=fun x y H Q=>rIx K x y H Q\/∃ a v,x=.ref a/\DGet H a y (some v)/\Q v H
theorem qbc (hu:X.A.units+1 < cLine):IxR X (qg1 X.K):=by
 refine IxR.or qdX ?_
 intro value slice pins s σ H x y v u Q I rx ry h hs
 obtain ⟨a,w,rfl,g,q⟩:=h
 cases rx
 obtain ⟨T,ht⟩:∃ T,s.TypeIs (.ref a) T/\T = "dict":=⟨_,Vb I g,rfl⟩
 obtain ⟨ht,rfl⟩:=ht
 exact tail_any ht PySem.slot_dict_getitem.lookup (YD hu I g ry fun w' s' I' r=>⟨w,H,I',r,q⟩) hs
end
variable {T:String}
section
variable {a b:Expr} {fb:Sl->Out (D×Sl)}
theorem qbd {σ:St} {x y:V} {dx dy:D} {Q:VK} (hK:C.K=X.K) (sb:Same F H) (tx:TopIs C.K F H x dx) (ty:TopIs C.K F H y dy) (po:PoV C .sh F H (ixD dx dy) Q):qg1 X.K x y H Q:=by
 rw [hK] at tx ty
 cases dx with
 | lst xs=>
  cases dy <;> try exact po.elim
  rename_i i
  obtain rfl:=ty.int
  obtain ⟨a,vs,rfl,p,t⟩:=tx.lst sb
  unfold ixD at po
  cases e:L2.atI xs i with
  | none=>simp only [e] at po; exact po.elim
  | some d=>
   simp only [e] at po
   obtain ⟨v,h1,h2⟩:=t.atI e
   exact .inl (.inl ⟨a,vs,i,v,rfl,rfl,p,h1,po v F H sb .refl (by rw [hK]; exact h2)⟩)
 | tup xs=>
  cases dy <;> try exact po.elim
  rename_i i
  obtain rfl:=ty.int
  obtain ⟨a,vs,rfl,p,t⟩:=tx.tup sb
  unfold ixD at po
  cases e:L2.atI xs i with
  | none=>simp only [e] at po; exact po.elim
  | some d=>
   simp only [e] at po
   obtain ⟨v,h1,h2⟩:=t.atI e
   exact .inl (.inr (.inl ⟨a,vs,i,v,rfl,rfl,p,h1,po v F H sb .refl (by rw [hK]; exact h2)⟩))
 | str z=>
  cases dy <;> try exact po.elim
  rename_i i
  obtain rfl:=ty.int
  obtain ⟨rfl,hz⟩:=tx.str
  unfold ixD at po
  cases e:L2.atI z.cps.toList i with
  | none=>simp only [e] at po; exact po.elim
  | some c=>
   simp only [e] at po
   exact .inl (.inr (.inr ⟨z,i,c,rfl,rfl,hz,e,po _ F H sb .refl (.str (Wr c))⟩))
 | dct kvs=>
  obtain ⟨a,kv,rfl,p,t⟩:=tx.dct sb
  cases dy with
  | int i=>
   obtain rfl:=ty.int
   unfold ixD at po
   cases e:(kvs.find? fun kv=>decide (kv.1=d4 i)) with
   | none=>simp only [e] at po; exact po.elim
   | some d=>
    simp only [e] at po
    obtain ⟨v,h1,h2⟩:=t.find e
    exact .inr ⟨a,v,rfl,by rw [<-h1]; exact DGet.k (k:=d4 i) p,po v F H sb .refl (by rw [hK]; exact h2)⟩
  | str z=>
   obtain ⟨rfl,_⟩:=ty.str
   unfold ixD at po
   cases e:(kvs.find? fun kv=>decide (kv.1=bj z)) with
   | none=>simp only [e] at po; exact po.elim
   | some d=>
    simp only [e] at po
    obtain ⟨v,h1,h2⟩:=t.find e
    exact .inr ⟨a,v,rfl,by rw [<-h1]; exact DGet.k (k:=bj z) p,po v F H sb .refl (by rw [hK]; exact h2)⟩
  | _=>exact po.elim
 | _=>exact po.elim
theorem jp (hK:C.K=X.K) (hu:X.A.units+64 < cLine) (ha:PE X a (tE C own ma fa)) (hb:PE X b (tE C own mb fb)) (hs:KY b) (hma:ma≠.any:=by decide):PE X (.Subscript a b pos) (tE C own .sh (d2 ixD fa fb)):=by
 refine jG (qdV (qbc (by omega)) ha hb hs) fun σ H Q h=>?_
 obtain ⟨F,ρ,rp,h⟩:=JL (mb:=mb) hma h
 refine ⟨F,ρ,rp,?_⟩
 cases q:fa ρ with
 | ok p=>
  rw [q] at h
  obtain ⟨d,ρ1⟩:=p
  intro v F1 H1 rp1 c1 mo1
  obtain ⟨F2,ρ2,rp2,h2⟩:=h v F1 H1 rp1 c1 mo1
  refine ⟨F2,ρ2,rp2,?_⟩
  cases q2:fb ρ2 with
  | ok p=>
   rw [q2] at h2
   obtain ⟨d',ρ3⟩:=p
   intro w F3 H3 rp3 c3 mo3
   obtain ⟨F4,dx,dy,sb,tx,ty,po⟩:=h2 w F3 H3 rp3 c3 mo3
   exact qbd (σ:=σ) hK sb tx ty po
  | exc c=>rw [q2] at h2; exact h2
  | bad=>rw [q2] at h2; exact h2.elim
 | exc c=>rw [q] at h; exact h
 | bad=>rw [q] at h; exact h.elim
def Qk (X:Cx) (C:Ct) (m:Mo) (f:Value) (g:D->Out D):Prop:=wH X f (fun xs H Q=>∃ x F dx,xs=[x]/\Same F H/\TopIs C.K F H x dx/\PoV C m F H (g dx) Q)
theorem yQ {Q:VK} {g:D->Out D} (h:tE C own m (d1 g fa) σ H Q):Uq (tE C own ma fa) qfv σ H fun xs H1=>∃ x F dx,xs=[x]/\Same F H1/\TopIs C.K F H1 x dx/\PoV C m F H1 (g dx) Q:=by
 obtain ⟨F,ρ,rp,h⟩:=Vd (ma:=ma) h
 refine ⟨F,ρ,rp,?_⟩
 cases q:fa ρ with
 | ok p=>
  rw [q] at h
  obtain ⟨d,ρ1⟩:=p
  intro v F1 H1 rp1 c1 mo1
  obtain ⟨F2,dx,sb,tx,po⟩:=h v F1 H1 rp1 c1 mo1
  exact ⟨v,F2,dx,rfl,sb,tx,po⟩
 | exc c=>rw [q] at h; exact h
 | bad=>rw [q] at h; exact h.elim
theorem qG {id:String} {p:Pos} {g:D->Out D} (hc:Qk X C m (.builtin id) g) (hg:Gl X x) (hm:X.mg x=none) (hv:bootBuiltins x=some (.builtin id)) (ha:PE X e (tE C own ma fa)) (hn:x ≠ "__name__":=by decide) (hdb:(x == ("__debug__":Str))=false:=by decide)
  (he:starEach [e] X.env=[(false,eval e X.env)]:=by exact qV rfl):PE X (.Call (.Name x p) [e] [] pos) (tE C own m (d1 g fa)):=
 jG (vS hc hg hm hv (qS ha jz he) hn hdb (by rw [he]; rfl) rfl) fun _ _ _ h=>yQ h
theorem ky {p:Pos} {g:D->Out D} (hc:Qk X C m (.type T) g) (hg:Gl X x) (hm:X.mg x=none) (hv:bootBuiltins x=some (.type T)) (ha:PE X e (tE C own ma fa)) (hn:x ≠ "__name__":=by decide) (hdb:(x == ("__debug__":Str))=false:=by decide)
  (he:starEach [e] X.env=[(false,eval e X.env)]:=by exact qV rfl):PE X (.Call (.Name x p) [e] [] pos) (tE C own m (d1 g fa)):=
 jG (wJ hc hg hm hv (qS ha jz he) hn hdb (by rw [he]; rfl) rfl) fun _ _ _ h=>yQ h
noncomputable def jI:D->Out D
 | .str x=>.ok (.int x.length)
 | .lst xs=>.ok (.int xs.length)
 | .tup xs=>.ok (.int xs.length)
 | .dct xs=>.ok (.int xs.length)
 | _=>.bad
theorem IsK.length:∀ {vs:List (Key×V)} {ds:List (Key×D)},IsK K F vs ds->vs.length=ds.length
 | _,_,.nil=>rfl
 | _,_,.cons _ t=>congrArg (·+1) (IsK.length t)
theorem jr (hK:C.K=X.K):Qk X C .sh (.builtin "len") jI:=by
 intro pins s σ H xs us Q I r h
 obtain ⟨x,F,dx,rfl,sb,tx,po⟩:=h
 cases dx with
 | str z=>
  obtain ⟨rfl,hz⟩:=tx.str
  exact Qg pins s σ H _ us Q I r ⟨_,_,rfl,⟨hz,rfl⟩,po _ F H sb .refl (.int _)⟩
 | lst ds=>
  obtain ⟨a,vs,rfl,p,t⟩:=tx.lst sb
  exact Qg pins s σ H _ us Q I r ⟨_,ds.length,rfl,.inl ⟨vs,by rw [<-hK]; exact p,t.length.symm⟩,po _ F H sb .refl (.int _)⟩
 | tup ds=>
  obtain ⟨a,vs,rfl,p,t⟩:=tx.tup sb
  exact Qg pins s σ H _ us Q I r ⟨_,ds.length,rfl,.inr ⟨vs,by rw [<-hK]; exact p,t.length.symm⟩,po _ F H sb .refl (.int _)⟩
 | dct ds=>
  obtain ⟨a,vs,rfl,p,t⟩:=tx.dct sb
  refine YH pins s σ H _ us Q I r ⟨a,vs,rfl,p,?_⟩
  rw [t.length]
  exact po _ F H sb .refl (.int _)
 | _=>exact po.elim
noncomputable def kt:D->D->Out D
 | .int i,.int j=>.ok (.int (i+j))
 | .str x,.str y=>if x.length+y.length<=sizeLine then .ok (.str (x++y)) else .bad
 | .lst xs,.lst ys=>if xs.length+ys.length<=sizeLine then .ok (.lst (xs++ys)) else .bad
 | .tup xs,.tup ys=>if xs.length+ys.length<=sizeLine then .ok (.tup (xs++ys)) else .bad
 | _,_=>.bad
theorem yR (sb:Same F H) (hp:H p=none):Same (upd F p u) (upd H p u)/\Chg No F H (upd F p u) (upd H p u):=by
 have hF:F p=none:=by
  cases q:F p with
  | none=>rfl
  | some o=>rw [sb p o q] at hp; cases hp
 refine ⟨fun b o e=>?_,⟨fun b o e _=>by rw [qB (qI e hp)]; exact e,fun b e=>?_,fun b o e=>by rw [qB (qI e hF)]; exact e,fun b e=>?_⟩⟩
 ·by_cases q:b=p
  ·subst q; rw [qr] at e ⊢; exact e
  ·rw [qB q] at e ⊢; exact sb b o e
 ·by_cases q:b=p
  ·rw [q,qr]; simp
  ·rw [qB q]; exact e
 ·by_cases q:b=p
  ·exact .inr (.inl (by rw [q]; exact hp))
  ·rw [qB q] at e; exact .inl e
theorem kX (sb:Same F H) (hp:H p=none):Same F (upd H p u)/\Chg No F H F (upd H p u)/\F p=none:=by
 have hF:F p=none:=by
  cases q:F p with
  | none=>rfl
  | some o=>rw [sb p o q] at hp; cases hp
 refine ⟨fun b o e=>by rw [qB (qI e hF)]; exact sb b o e,⟨fun b o e _=>by rw [qB (qI e hp)]; exact e,fun b e=>?_,Same.refl _,fun b e=>.inl e⟩,hF⟩
 by_cases q:b=p
 ·rw [q,qr]; simp
 ·rw [qB q]; exact e
theorem Vi (x y:Str):(x++y).length=x.length+y.length:=by
 show (x.cps++y.cps).size=_
 simp [fF]
theorem qcc:OpR X (binaryOp .Add) (fun x y H Q=>∃ l b xs zs,x=.ref l/\y=.ref b/\SqL X.K H l xs/\SqL X.K H b zs/\xs.length+zs.length<=sizeLine/\∀ p,H p=none->Q (.ref p) (upd H p (.lst (xs++zs)))):=by
 intro pins s σ H x y v u Q I rx ry h
 obtain ⟨l,b,xs,zs,rfl,rfl,h1,h2,hz,q⟩:=h
 cases rx
 cases ry
 obtain ⟨its,r1,p1,_⟩:=I.list h1
 obtain ⟨its2,r2,p2,_⟩:=I.list h2
 obtain ⟨⟨cls,dd,data,sl⟩,ho,hc,n,hd⟩:=id p1.isList
 obtain ⟨⟨cls2,dd2,data2,sl2⟩,ho2,hc2,n2,hd2⟩:=id p2.isList
 simp only at hc hd hc2 hd2
 subst hc hd hc2 hd2
 have hl1:=r1.length
 have hl2:=r2.length
 refine concat_meets ⟨_,ho,rfl⟩ ⟨_,ho2,rfl⟩ noFill_list_add seq_list_add PySem.F.slot_list_add PySem.F.entry_list_add (PySem.F.args_list_add_2 _ _)
  (list_addW l b its.toArray its2.toArray n n2 dd dd2 sl sl2 (by simp only [aw]; omega)) ⟨ho,ho2,?_⟩
 have ea:its.toArray++its2.toArray=(its++its2).toArray:=by simp
 rw [ea]
 exact ⟨.ref _,_,I.lnew (t':=s.toks) (r1.append r2) (by rw [af]; exact hz),rfl,q _ I.fresh⟩
theorem qcd:OpR X (binaryOp .Add) (fun x y H Q=>∃ a b ys,x=.ref a/\y=.ref b/\SqT X.K H a []/\SqT X.K H b ys/\Q (.ref b) H):=by
 intro pins s σ H x y v u Q I rx ry h
 obtain ⟨a,b,ys,rfl,rfl,h1,h2,q⟩:=h
 cases rx
 cases ry
 obtain ⟨its,r1,p1,_⟩:=I.tuple h1
 obtain ⟨its2,r2,p2,_⟩:=I.tuple h2
 cases r1
 obtain ⟨⟨cls,dd,data,sl⟩,ho,hc,n,hd⟩:=id p1
 obtain ⟨⟨cls2,dd2,data2,sl2⟩,ho2,hc2,n2,hd2⟩:=id p2
 simp only at hc hd hc2 hd2
 subst hc hd hc2 hd2
 exact concat_meets ⟨_,ho,rfl⟩ ⟨_,ho2,rfl⟩ noFill_tuple_add seq_tuple_add dU dJ (dw _ _)
  (tuple_addW0 a b _ _ n n2 dd dd2 sl sl2 rfl) ⟨ho,ho2,⟨.ref b,H,I,rfl,q⟩⟩
theorem jJ (hK:C.K=X.K):OpD X C .sh (binaryOp .Add) kt:=by
 intro pins s σ H x y v u Q I rx ry h
 obtain ⟨F,dx,dy,sb,tx,ty,po⟩:=h
 cases dx with
 | int i=>
  cases dy <;> try exact po.elim
  obtain rfl:=tx.int
  obtain rfl:=ty.int
  exact qdL pins s σ H _ _ v u Q I rx ry ⟨_,_,rfl,rfl,po _ F H sb .refl (.int _)⟩
 | str a=>
  cases dy <;> try exact po.elim
  rename_i b
  obtain ⟨rfl,_⟩:=tx.str
  obtain ⟨rfl,_⟩:=ty.str
  have po:PoV C .sh F H (if a.length+b.length<=sizeLine then .ok (.str (a++b)) else .bad) Q:=po
  by_cases z:a.length+b.length<=sizeLine
  ·rw [if_pos z] at po
   exact Up pins s σ H _ _ v u Q I rx ry ⟨_,_,rfl,rfl,z,po _ F H sb .refl (.str (by rw [Vi]; exact z))⟩
  ·rw [if_neg z] at po; exact po.elim
 | lst xs=>
  cases dy <;> try exact po.elim
  rename_i ys
  obtain ⟨a,vs,rfl,p1,t1⟩:=tx.lst sb
  obtain ⟨b,ws,rfl,p2,t2⟩:=ty.lst sb
  have po:PoV C .sh F H (if xs.length+ys.length<=sizeLine then .ok (.lst (xs++ys)) else .bad) Q:=po
  by_cases z:xs.length+ys.length<=sizeLine
  ·rw [if_pos z] at po
   refine qcc pins s σ H _ _ v u Q I rx ry ⟨a,b,vs,ws,rfl,rfl,by rw [<-hK]; exact p1,by rw [<-hK]; exact p2,by rw [t1.length,t2.length]; exact z,fun p hp=>?_⟩
   obtain ⟨s2,c2⟩:=yR (u:=.lst (vs++ws)) sb hp
   exact po _ _ _ s2 c2 (.lst (.inl (.inl qr)) ((t1.append t2).mono c2.grow))
  ·rw [if_neg z] at po; exact po.elim
 | tup xs=>
  cases dy <;> try exact po.elim
  rename_i ys
  obtain ⟨a,vs,rfl,p1,t1⟩:=tx.tup sb
  obtain ⟨b,ws,rfl,p2,t2⟩:=ty.tup sb
  have po:PoV C .sh F H (if xs.length+ys.length<=sizeLine then .ok (.tup (xs++ys)) else .bad) Q:=po
  by_cases z:xs.length+ys.length<=sizeLine
  ·rw [if_pos z] at po
   cases vs with
   | nil=>
    cases t1
    rcases ty with ty | ⟨_,_,ty⟩
    ·exact qcd pins s σ H _ _ v u Q I rx ry ⟨a,b,ws,rfl,rfl,by rw [<-hK]; exact p1,by rw [<-hK]; exact p2,po _ F H sb .refl ty⟩
    ·exact ty.elim
   | cons v0 vs=>
    refine qbZ pins s σ H _ _ v u Q I rx ry ⟨a,b,v0::vs,ws,rfl,rfl,by rw [<-hK]; exact p1,by rw [<-hK]; exact p2,by simp,by rw [t1.length,t2.length]; exact z,fun e=>?_,fun e p hp=>?_⟩
    ·subst e
     cases t2
     rcases tx with tx | ⟨_,_,tx⟩
     ·refine po _ F H sb .refl ?_
      rw [aY]
      exact tx
     ·exact tx.elim
    ·obtain ⟨s2,c2⟩:=yR (u:=.tup (v0::vs++ws)) sb hp
     exact po _ _ _ s2 c2 (.tup (.inl (.inl qr)) ((t1.append t2).mono c2.grow))
  ·rw [if_neg z] at po; exact po.elim
 | _=>exact po.elim
end
inductive PM where
 | val | io | tk
 deriving DecidableEq
noncomputable def xM:List PM->List V->List Addr
 | .val::ms,_::vs=>xM ms vs
 | .io::ms,.ref a::vs=>a::xM ms vs
 | .tk::ms,.ref a::vs=>a::xM ms vs
 | _::ms,_::vs=>xM ms vs
 | _,_=>[]
def ArgsIs (K:Frag) (F H:Hp):List PM->List V->List D->Prop
 | [],[],[]=>True
 | .val::ms,v::vs,d::ds=>Is K F v d/\ArgsIs K F H ms vs ds
 | .io::ms,v::vs,d::ds=>(∃ a,v=.ref a/\F a=none/\OwnIs K F H a d)/\ArgsIs K F H ms vs ds
 | .tk::ms,v::vs,d::ds=>(∃ a,v=.ref a/\F a=none/\OwnIs K F H a d)/\ArgsIs K F H ms vs ds
 | _,_,_=>False
def yi (K:Frag) (F H:Hp):List PM->List V->List D->Prop
 | [],_,_=>True
 | .io::ms,v::vs,d::ds=>(∃ a,v=.ref a/\F a=none/\OwnIs K F H a d)/\yi K F H ms vs ds
 | _::ms,_::vs,_::ds=>yi K F H ms vs ds
 | _,_,_=>False
abbrev LA (ms:List PM) (vs:List V):Addr->Prop:=fun b=>b∈xM ms vs
def PoG (K:Frag) (cv:Str->Value) (ms:List PM) (mr:Mo) (vs:List V) (F H:Hp) (Q:VK) (E:XK) (o:Out (D×List D)):Prop:=match o with
 | .ok (d,outs)=>∀ v F' H',Same F' H'->Chg (LA ms vs) F H F' H'->yi K F' H' ms vs outs->MoIs K mr H F' H' v d->Q v H'
 | .exc c o=>∀ F' H',Same F' H'->Chg (LA ms vs) F H F' H'->yi K F' H' ms vs (o.map (·.getD .non))->E (cv c) none H'
 | .bad=>False
def spD (K:Frag) (cv:Str->Value) (ms:List PM) (mr:Mo) (G:List D->Out (D×List D)):Sp:=fun vs H Q E=>∃ F ds,Same F H/\ArgsIs K F H ms vs ds/\(xM ms vs).Nodup/\PoG K cv ms mr vs F H Q E (G ds)
theorem ArgsIs.length:∀ {ms:List PM} {vs:List V} {ds:List D},ArgsIs K F H ms vs ds->vs.length=ms.length/\ds.length=ms.length
 | [],[],[],_=>⟨rfl,rfl⟩
 | .val::ms,v::vs,d::ds,h=>by have:=ArgsIs.length h.2; simp [this]
 | .io::ms,v::vs,d::ds,h=>by have:=ArgsIs.length h.2; simp [this]
 | .tk::ms,v::vs,d::ds,h=>by have:=ArgsIs.length h.2; simp [this]
 | [],_::_,_,h=>h.elim
 | [],[],_::_,h=>h.elim
 | .val::_,[],_,h=>h.elim
 | .val::_,_::_,[],h=>h.elim
 | .io::_,[],_,h=>h.elim
 | .io::_,_::_,[],h=>h.elim
 | .tk::_,[],_,h=>h.elim
 | .tk::_,_::_,[],h=>h.elim
noncomputable def jV (n:Nat):List PM->List Nat
 | []=>[]
 | .val::ms=>jV (n+1) ms
 | _::ms=>n::jV (n+1) ms
noncomputable def Vj (n:Nat):List PM->List Nat
 | []=>[]
 | .io::ms=>n::Vj (n+1) ms
 | _::ms=>Vj (n+1) ms
variable {n:Nat}
theorem yj:∀ {ms:List PM} {i:Nat},i∈jV n ms->n<=i/\i < n+ms.length:=by
 intro ms
 induction ms generalizing n with
 | nil=>intro i h; simp [jV] at h
 | cons m ms ih=>
  intro i h
  cases m with
  | val=>have:=ih (n:=n+1) h; simp only [ao]; omega
  | io=>
   rcases ac.mp h with e | h
   ·simp only [ao]; omega
   ·have:=ih (n:=n+1) h; simp only [ao]; omega
  | tk=>
   rcases ac.mp h with e | h
   ·simp only [ao]; omega
   ·have:=ih (n:=n+1) h; simp only [ao]; omega
theorem GH:∀ {ms:List PM} {i:Nat},i∈Vj n ms->i∈jV n ms:=by
 intro ms
 induction ms generalizing n with
 | nil=>intro i h; simp [Vj] at h
 | cons m ms ih=>
  intro i h
  cases m with
  | val=>exact ih (n:=n+1) h
  | io=>
   rcases ac.mp h with e | h
   ·exact ac.mpr (.inl e)
   ·exact aa _ (ih (n:=n+1) h)
  | tk=>exact aa _ (ih (n:=n+1) h)
theorem Uw:∀ {ms:List PM} {vs:List V} {ds:List D} {n:Nat},ArgsIs K F H ms vs ds ->
  (∀ j d,ds[j]?=some d->n+j∉jV n ms->∃ v,vs[j]?=some v/\Is K F v d) /\
  (∀ j d,ds[j]?=some d->n+j∈jV n ms->∃ a,vs[j]?=some (.ref a)/\F a=none/\OwnIs K F H a d):=by
 intro ms
 induction ms with
 | nil=>intro vs ds n h; cases vs <;> cases ds <;> first | exact h.elim | (refine ⟨fun j d e=>?_,fun j d e=>?_⟩ <;> simp at e)
 | cons m ms ih=>
  intro vs ds n h
  cases vs with
  | nil=>cases m <;> exact h.elim
  | cons v vs=>
   cases ds with
   | nil=>cases m <;> exact h.elim
   | cons d ds=>
    cases m with
    | val=>
     obtain ⟨h1,h2⟩:=h
     obtain ⟨i1,i2⟩:=ih (n:=n+1) h2
     refine ⟨fun j e hj hn=>?_,fun j e hj hn=>?_⟩
     ·cases j with
      | zero=>simp at hj; subst hj; exact ⟨v,rfl,h1⟩
      | succ j=>simpa using i1 j e (by simpa using hj) (by rw [show n+1+j=n+(j+1) by omega]; exact hn)
     ·cases j with
      | zero=>have:=yj (n:=n+1) hn; omega
      | succ j=>simpa using i2 j e (by simpa using hj) (by rw [show n+1+j=n+(j+1) by omega]; exact hn)
    | io=>
     obtain ⟨⟨a,rfl,h1⟩,h2⟩:=h
     obtain ⟨i1,i2⟩:=ih (n:=n+1) h2
     refine ⟨fun j e hj hn=>?_,fun j e hj hn=>?_⟩
     ·cases j with
      | zero=>exact absurd (ac.mpr (.inl rfl)) hn
      | succ j=>simpa using i1 j e (by simpa using hj) (fun z=>hn (aa _ (by rw [show n+(j+1)=n+1+j by omega]; exact z)))
     ·cases j with
      | zero=>simp at hj; subst hj; exact ⟨a,rfl,h1⟩
      | succ j=>
       have hm:n+1+j∈jV (n+1) ms:=by
        rcases ac.mp hn with z | z
        ·omega
        ·rw [show n+1+j=n+(j+1) by omega]; exact z
       simpa using i2 j e (by simpa using hj) hm
    | tk=>
     obtain ⟨⟨a,rfl,h1⟩,h2⟩:=h
     obtain ⟨i1,i2⟩:=ih (n:=n+1) h2
     refine ⟨fun j e hj hn=>?_,fun j e hj hn=>?_⟩
     ·cases j with
      | zero=>exact absurd (ac.mpr (.inl rfl)) hn
      | succ j=>simpa using i1 j e (by simpa using hj) (fun z=>hn (aa _ (by rw [show n+(j+1)=n+1+j by omega]; exact z)))
     ·cases j with
      | zero=>simp at hj; subst hj; exact ⟨a,rfl,h1⟩
      | succ j=>
       have hm:n+1+j∈jV (n+1) ms:=by
        rcases ac.mp hn with z | z
        ·omega
        ·rw [show n+1+j=n+(j+1) by omega]; exact z
       simpa using i2 j e (by simpa using hj) hm
theorem YW:∀ {ms:List PM} {vs:List V} {j:Nat} {a:Addr},n+j∈jV n ms->vs[j]?=some (.ref a)->a∈xM ms vs:=by
 intro ms
 induction ms generalizing n with
 | nil=>intro vs j a h; simp [jV] at h
 | cons m ms ih=>
  intro vs j a h e
  cases vs with
  | nil=>simp at e
  | cons v vs=>
   cases j with
   | zero=>
    simp at e; subst e
    cases m with
    | val=>have:=yj (n:=n+1) h; omega
    | io=>exact ac.mpr (.inl rfl)
    | tk=>exact ac.mpr (.inl rfl)
   | succ j=>
    have e':vs[j]?=some (.ref a):=by simpa using e
    have sub:n+1+j∈jV (n+1) ms:=by
     rw [show n+1+j=n+(j+1) by omega]
     cases m with
     | val=>exact h
     | io=>exact (ac.mp h).resolve_left (by omega)
     | tk=>exact (ac.mp h).resolve_left (by omega)
    have q:=ih (n:=n+1) sub e'
    cases m <;> cases v <;> first | exact q | exact aa _ q
theorem YX:∀ {ms:List PM} {vs:List V} {a:Addr},a∈xM ms vs->∃ j,n+j∈jV n ms/\vs[j]?=some (.ref a):=by
 intro ms
 induction ms generalizing n with
 | nil=>intro vs a h; cases vs <;> simp [xM] at h
 | cons m ms ih=>
  intro vs a h
  cases vs with
  | nil=>cases m <;> simp [xM] at h
  | cons v vs=>
   have up:∀ {b},b∈xM ms vs->∃ j,n+j∈jV n (m::ms)/\(v::vs)[j]?=some (.ref b):=fun hb=>by
    obtain ⟨j,h1,h2⟩:=ih (n:=n+1) hb
    refine ⟨j+1,?_,by simpa using h2⟩
    rw [show n+(j+1)=n+1+j by omega]
    cases m with
    | val=>exact h1
    | io=>exact aa _ h1
    | tk=>exact aa _ h1
   cases m with
   | val=>exact up (by cases v <;> exact h)
   | io=>
    cases v with
    | ref c=>
     rcases ac.mp h with e | h
     ·subst e; exact ⟨0,ac.mpr (.inl rfl),rfl⟩
     ·exact up h
    | _=>exact up h
   | tk=>
    cases v with
    | ref c=>
     rcases ac.mp h with e | h
     ·subst e; exact ⟨0,ac.mpr (.inl rfl),rfl⟩
     ·exact up h
    | _=>exact up h
theorem GI:∀ {ms:List PM} {vs:List V} {i j:Nat} {a:Addr},(xM ms vs).Nodup->n+i∈jV n ms->n+j∈jV n ms->vs[i]?=some (.ref a)->vs[j]?=some (.ref a)->i=j:=by
 intro ms
 induction ms generalizing n with
 | nil=>intro vs i j a _ h; simp [jV] at h
 | cons m ms ih=>
  intro vs i j a nd hi hj e1 e2
  cases vs with
  | nil=>simp at e1
  | cons v vs=>
   have sub:∀ {k},n+(k+1)∈jV n (m::ms)->n+1+k∈jV (n+1) ms:=fun {k} h=>by
    rw [show n+1+k=n+(k+1) by omega]
    cases m with
    | val=>exact h
    | io=>exact (ac.mp h).resolve_left (by omega)
    | tk=>exact (ac.mp h).resolve_left (by omega)
   have nd':(xM ms vs).Nodup:=by
    cases m <;> cases v <;> first | exact nd | exact (aI.mp nd).2
   have no0:∀ {k b},n+0∈jV n (m::ms)->v=.ref b->n+(k+1)∈jV n (m::ms)->vs[k]?=some (.ref b)->False:=fun {k b} h0 hv hk ek=>by
    subst hv
    have q:=YW (n:=n+1) (sub hk) ek
    cases m with
    | val=>have:=yj (n:=n+1) h0; omega
    | io=>exact (aI.mp nd).1 q
    | tk=>exact (aI.mp nd).1 q
   cases i with
   | zero=>
    cases j with
    | zero=>rfl
    | succ j=>exact (no0 hi (by simpa using e1) hj (by simpa using e2)).elim
   | succ i=>
    cases j with
    | zero=>exact (no0 hj (by simpa using e2) hi (by simpa using e1)).elim
    | succ j=>exact congrArg (·+1) (ih (n:=n+1) nd' (sub hi) (sub hj) (by simpa using e1) (by simpa using e2))
noncomputable def qy (N:List Str) (ds:List D):Sl:=ds.map some++bu (N.length - ds.length) none
variable {α:Type} {N:List Str}
theorem get_start {xs:List α} {x:α}:(xs.map some++bu (N.length - xs.length) none)[i]?=some (some x)↔xs[i]?=some x:=by
 by_cases h:i < xs.length
 ·rw [bY (by simpa using h),aF]
  cases e:xs[i]? with
  | none=>simp
  | some y=>simp
 ·rw [bA (by simpa using h),bQ]
  have e:xs[i]?=none:=List.getElem?_eq_none_iff.mpr (by omega)
  rw [e]
  split <;> simp
variable {ms:List PM}
theorem YY (sb:Same F H) (ar:ArgsIs K F H ms vs ds) (nd:(xM ms vs).Nodup):Rep K (jV 0 ms) F H (vC N vs) (qy N ds):=by
 obtain ⟨h1,h2⟩:=Uw (n:=0) ar
 obtain ⟨l1,l2⟩:=ar.length
 refine ⟨sb,by simp [vC,qy,l1,l2],fun i d hi e=>?_,fun i d hi e=>?_,fun i hi=>?_,fun i j a hi hj e1 e2=>?_⟩
 ·obtain ⟨v,a,b⟩:=h1 i d (get_start.mp e) (by simpa using hi)
  exact ⟨v,get_start.mpr a,b⟩
 ·obtain ⟨v,a,b⟩:=h2 i d (get_start.mp e) (by simpa using hi)
  exact ⟨v,get_start.mpr a,b⟩
 ·have q:=yj hi
  have hl:i < ds.length:=by omega
  exact ⟨ds[i],get_start.mpr (by simp [hl])⟩
 ·exact GI (n:=0) nd (by simpa using hi) (by simpa using hj) (get_start.mp e1) (get_start.mp e2)
theorem oa_start:OA (jV 0 ms) (vC N vs) b↔LA ms vs b:=by
 constructor
 ·rintro ⟨i,hi,e⟩
  exact YW (n:=0) (by simpa using hi) (get_start.mp e)
 ·intro h
  obtain ⟨j,h1,h2⟩:=YX (n:=0) h
  exact ⟨j,by simpa using h1,get_start.mpr h2⟩
noncomputable def qA (ρ:Sl):Nat->List PM->List D
 | _,[]=>[]
 | n,.io::ms=>((ρ[n]?).getD none).getD .non::qA ρ (n+1) ms
 | n,_::ms=>.non::qA ρ (n+1) ms
theorem qce {σ:St} {N:List Str}:∀ {ms:List PM} {vs:List V} {n:Nat},vs.length=ms.length->(∀ i∈Vj n ms,∃ d a,ρ[i]?=some (some d)/\vs[i - n]?=some (V.ref a)/\F a=none/\OwnIs K F H a d)->yi K F H ms vs (qA ρ n ms):=by
 intro ms
 induction ms with
 | nil=>intro vs n _ _; trivial
 | cons m ms ih=>
  intro vs n hl h
  cases vs with
  | nil=>simp at hl
  | cons v vs=>
   have rest:(∀ i∈Vj (n+1) ms,i∈Vj n (m::ms))->yi K F H ms vs (qA ρ (n+1) ms):=fun hs=>by
    refine ih (by simpa using hl) fun i hi=>?_
    obtain ⟨d,a,e1,e2,e3⟩:=h i (hs i hi)
    have q:=yj (GH hi)
    refine ⟨d,a,e1,?_,e3⟩
    rw [show i - n=(i - (n+1))+1 by omega] at e2
    simpa using e2
   cases m with
   | val=>exact rest fun i hi=>hi
   | io=>
    obtain ⟨d,a,e1,e2,e3⟩:=h n (ac.mpr (.inl rfl))
    refine ⟨⟨a,by simpa using e2,e3.1,?_⟩,rest fun i hi=>aa _ hi⟩
    rw [e1]
    exact e3.2
   | tk=>exact rest fun i hi=>hi
noncomputable def Fl.val:Fl->Option D
 | .nx=>some .non
 | .rt d=>some d
 | _=>none
noncomputable def km (N:List Str) (ms:List PM) (f:Sl->Out (Fl×Sl)) (ds:List D):Out (D×List D):=match f (qy N ds) with
 | .ok (.nx,ρ)=>.ok (.non,qA ρ 0 ms)
 | .ok (.rt d,ρ)=>.ok (d,qA ρ 0 ms)
 | .ok _=>.bad
 | .exc c ρ=>.exc c ((qA ρ 0 ms).map some)
 | .bad=>.bad
theorem Ws:∀ (l:List D),(l.map some).map (fun x:Option D=>x.getD .non)=l
 | []=>rfl
 | a::l=>congrArg (a::·) (Ws l)
def Out.le {α:Type} (a b:Out α):Prop:=a=.bad\/a=b
theorem YZ {f:Sl->Out (Fl×Sl)} {Q:VK} {o:Out (D×List D)} (hio:C.io=Vj 0 ms) (hox:C.ox=C.io) (hmr:C.mr=.sh\/∀ ρ,(f (qy N ds))≠.ok (.nx,ρ)) (hsub:∀ i∈Vj 0 ms,i∈own') (sb:Same F H) (ar:ArgsIs C.K F H ms vs ds) (nd:(xM ms vs).Nodup)
  (hG:Out.le o (km N ms f ds)) (h:PoG C.K C.cv ms C.mr vs F H Q C.E o):tSt C (jV 0 ms) own' f { nx:=fun _ H'=>Q .non H',rt:=Q } (vC N vs) H:=by
 refine ⟨F,qy N ds,YY sb ar nd,?_⟩
 have hl:=ar.length.1
 have ch:∀ {F' H'},Chg (OA (jV 0 ms) (vC N vs)) F H F' H'->Chg (LA ms vs) F H F' H':=fun c=>c.mono fun x z=>oa_start.mp z
 have outs:∀ {σ':St} {ρ':Sl} {F' H':Hp},YJ C.K C.io F' H' σ' ρ'->(∀ i∈C.io,σ'[i]?=(vC N vs)[i]?)->yi C.K F' H' ms vs (qA ρ' 0 ms):=fun {σ' ρ' F' H'} io e=>by
  refine qce (N:=N) (σ:=σ') hl fun i hi=>?_
  have hi':i∈C.io:=by rw [hio]; exact hi
  obtain ⟨d,a,e1,e2,e3⟩:=io i hi'
  refine ⟨d,a,e1,?_,e3⟩
  rw [e i hi'] at e2
  exact get_start.mp e2
 rcases hG with e | e
 ·subst e; exact h.elim
 ·subst e
  unfold km at h
  cases q:f (qy N ds) with
  | ok p=>
   rw [q] at h
   obtain ⟨fl,ρ'⟩:=p
   cases fl with
   | nx=>
    have hm:C.mr=.sh:=hmr.resolve_right fun z=>z ρ' q
    exact fun σ' F' H' n=>h .non F' H' n.rep.sub (ch n.chg) (outs (n.rep.ioIs (by rw [hio]; exact hsub)) n.io) (by rw [hm]; exact .non)
   | rt d=>exact fun v σ' F' H' s io c e mo=>h v F' H' s (ch c) (outs io e) mo
   | bk=>exact h.elim
   | ct=>exact h.elim
  | exc c ρ'=>
   rw [q] at h
   exact fun F' H' s io c'=>h F' H' s (ch c') (by rw [Ws]; exact outs (σ':=vC N vs) (by rw [<-hox]; exact io) fun _ _=>rfl)
  | bad=>rw [q] at h; exact h.elim
def qdq (K:Frag) (cv:Str->Value) (E:XK) (ms:List PM) (mr:Mo):Ct:=⟨K,cv,E,Vj 0 ms,mr,[],Vj 0 ms,fun _ h=>h⟩
theorem qg2 {P:Program} {w:World} {K:Frag} {mg:Str->Option Value} {base:Heap} {CX:CXT} {x qual:Str} {st:Stmt} {f:Addr} {fd:FuncData} {N ps:List Str} {k:Nat} {cv:Str->Value} {ms:List PM} {mr:Mo} {own':List Nat} {fb:Sl->Out (Fl×Sl)} {G:List D->Out (D×List D)}
  (F:Fun K x qual st f fd) (S:FnScope N ps (qf st)) (hl:ms.length=ps.length) (hsub:∀ i∈Vj 0 ms,i∈own') (hmr:mr=.sh\/∀ ds ρ,(fb (qy N ds))≠.ok (.nx,ρ))
  (hbody:∀ (cdv:Value) (A:Around) (outer:List Env) (s:Shared) (H:Hp) (E:XK),Room k (A.deeper (envOfC qual (qf st) s.heap.objs.size f cdv)) ->
   PSs (qbY CX P w K mg base N qual (qf st) f cdv A outer s H E) (kU st) (tSt (qdq K cv E ms mr) (jV 0 ms) own' fb))
  (hG:∀ ds,Out.le (G ds) (km N ms fb ds)):FnOk P w K mg base CX (k+1) f fd ps (spD K cv ms mr G):=by
 obtain ⟨oc,od,kV,doc,pm,an,cdv,ct,osl,rfl,lk,hcd⟩:=F.ex
 refine qf4 lk hcd S (fun vs H Q E h=>?_) fun A outer s H vs Q E hr hsp=>?_
 ·obtain ⟨F,ds,_,ar,_⟩:=h
  rw [ar.length.1,hl]
 ·obtain ⟨F1,ds,sb,ar,nd,h⟩:=hsp
  refine ⟨_,hbody cdv A outer s H E hr,?_⟩
  exact YZ (C:=qdq K cv E ms mr) rfl rfl (hmr.imp id fun z ρ=>z ds ρ) hsub sb ar nd (hG ds) h
noncomputable def Ql:AK->PM
 | .vl=>.val
 | .sl _=>.io
 | .fr=>.tk
noncomputable def qE:List AK->List D->Sl->Option (List D)
 | [],[],_=>some []
 | .sl i::as,_::ds,ρ=>match ρ[i]? with
  | some (some d)=>(qE as ds ρ).map (d::·)
  | _=>none
 | .vl::as,d::ds,ρ=>(qE as ds ρ).map (d::·)
 | .fr::as,d::ds,ρ=>(qE as ds ρ).map (d::·)
 | _,_,_=>none
noncomputable def jl:List AK->List D->Sl->Sl
 | .sl i::as,d::outs,ρ=>jl as outs (ρ.set i (some d))
 | _::as,_::outs,ρ=>jl as outs ρ
 | _,_,ρ=>ρ
noncomputable def jh:List AK->List Nat
 | []=>[]
 | .sl i::as=>i::jh as
 | _::as=>jh as
noncomputable def frA:List AK->Nat
 | []=>0
 | .fr::as=>frA as+1
 | _::as=>frA as
section
theorem yk:∀ {as:List AK} {vs:List V} {ds ds':List D},Rep K own F H σ ρ->(∀ i∈jh as,i∈own)->ArgV K H0 F H σ as vs ds->qE as ds ρ=some ds'->ArgsIs K F H (as.map Ql) vs ds'
 | [],vs,ds,ds',rp,hs,av,e=>by
  cases vs <;> cases ds <;> first | exact av.elim | (simp [qE] at e; subst e; trivial)
 | a::as,[],ds,ds',rp,hs,av,e=>by cases a <;> exact av.elim
 | a::as,v::vs,[],ds',rp,hs,av,e=>by cases a <;> exact av.elim
 | .vl::as,v::vs,d::ds,ds',rp,hs,av,e=>by
  cases q:qE as ds ρ with
  | none=>simp [qE,q] at e
  | some l=>
   have e:d::l=ds':=by simpa [qE,q] using e
   subst e
   exact ⟨av.1,yk rp hs av.2 q⟩
 | .fr::as,v::vs,d::ds,ds',rp,hs,av,e=>by
  cases q:qE as ds ρ with
  | none=>simp [qE,q] at e
  | some l=>
   have e:d::l=ds':=by simpa [qE,q] using e
   subst e
   obtain ⟨a,h1,_,h2,h3⟩:=av.1
   exact ⟨⟨a,h1,h2,h3⟩,yk rp hs av.2 q⟩
 | .sl i::as,v::vs,d::ds,ds',rp,hs,av,e=>by
  obtain ⟨h1,_,av2⟩:=av
  have hi:i∈own:=hs i (ac.mpr (.inl rfl))
  obtain ⟨d',hd⟩:=rp.opn i hi
  obtain ⟨a,e1,e2,e3⟩:=rp.ow i d' hi hd
  rw [h1] at e1
  cases e1
  cases q:qE as ds ρ with
  | none=>simp [qE,q,hd] at e
  | some l=>
   have e:d'::l=ds':=by simpa [qE,q,hd] using e
   subst e
   exact ⟨⟨a,rfl,e2,e3⟩,yk rp (fun j hj=>hs j (aa _ hj)) av2 q⟩
theorem kY:∀ {as:List AK} {vs:List V} {ds:List D} {b:Addr},ArgV K H0 F H σ as vs ds->b∈xM (as.map Ql) vs->(∃ i∈jh as,σ[i]?=some (some (V.ref b)))\/(H0 b=none/\frA as≠0/\H b≠none/\F b=none)
 | [],vs,ds,b,av,h=>by cases vs <;> simp [xM] at h
 | a::as,[],ds,b,av,h=>by cases a <;> exact av.elim
 | a::as,v::vs,[],b,av,h=>by cases a <;> exact av.elim
 | .vl::as,v::vs,d::ds,b,av,h=>by
  have h:b∈xM (as.map Ql) vs:=by cases v <;> exact h
  exact kY (as:=as) av.2 h
 | .fr::as,v::vs,d::ds,b,av,h=>by
  obtain ⟨⟨a,rfl,h0,hF,o⟩,av2⟩:=av
  have h:b∈a::xM (as.map Ql) vs:=h
  rcases ac.mp h with e | h
  ·subst e; exact .inr ⟨h0,by simp [frA],o.there,hF⟩
  ·rcases kY av2 h with z | ⟨z,_,z2⟩
   ·exact .inl z
   ·exact .inr ⟨z,by simp [frA],z2⟩
 | .sl i::as,v::vs,d::ds,b,av,h=>by
  obtain ⟨h1,_,av2⟩:=av
  have up:b∈xM (as.map Ql) vs->(∃ j∈jh (.sl i::as),σ[j]?=some (some (V.ref b)))\/(H0 b=none/\frA (.sl i::as)≠0/\H b≠none/\F b=none):=fun h=>by
   rcases kY av2 h with ⟨j,hj,e⟩ | z
   ·exact .inl ⟨j,aa _ hj,e⟩
   ·exact .inr z
  cases v with
  | ref a=>
   have h:b∈a::xM (as.map Ql) vs:=h
   rcases ac.mp h with e | h
   ·subst e; exact .inl ⟨i,ac.mpr (.inl rfl),h1⟩
   ·exact up h
  | _=>exact up h
theorem um:∀ {as:List AK} {vs:List V} {ds:List D},Rep K own F H σ ρ->(∀ x,OA own σ x->H0 x≠none)->(∀ i∈jh as,i∈own)->(jh as).Nodup->frA as<=1->ArgV K H0 F H σ as vs ds->(xM (as.map Ql) vs).Nodup
 | [],vs,ds,rp,h0,hs,nd,hf,av=>by cases vs <;> simp [xM]
 | a::as,[],ds,rp,h0,hs,nd,hf,av=>by cases a <;> exact av.elim
 | a::as,v::vs,[],rp,h0,hs,nd,hf,av=>by cases a <;> exact av.elim
 | .vl::as,v::vs,d::ds,rp,h0,hs,nd,hf,av=>by
  have q:=um (as:=as) rp h0 hs nd hf av.2
  cases v <;> exact q
 | .fr::as,v::vs,d::ds,rp,h0,hs,nd,hf,av=>by
  have hf':frA as=0:=by simp only [frA] at hf; omega
  obtain ⟨⟨a,rfl,hz,hF,o⟩,av2⟩:=av
  show (a::xM (as.map Ql) vs).Nodup
  refine aI.mpr ⟨fun z=>?_,um rp h0 hs nd (by omega) av2⟩
  rcases kY av2 z with ⟨i,hi,e⟩ | ⟨_,n,_⟩
  ·exact h0 a ⟨i,hs i hi,e⟩ hz
  ·exact n hf'
 | .sl i::as,v::vs,d::ds,rp,h0,hs,nd,hf,av=>by
  obtain ⟨h1,_,av2⟩:=av
  have hs':∀ j∈jh as,j∈own:=fun j hj=>hs j (aa _ hj)
  have hi:i∈own:=hs i (ac.mpr (.inl rfl))
  obtain ⟨ni,nd'⟩:=aI.mp nd
  have q:=um rp h0 hs' nd' hf av2
  cases v with
  | ref a=>
   show (a::xM (as.map Ql) vs).Nodup
   refine aI.mpr ⟨fun z=>?_,q⟩
   rcases kY av2 z with ⟨j,hj,e⟩ | ⟨n,_⟩
   ·exact ni (by rw [rp.dis i j a hi (hs' j hj) h1 e]; exact hj)
   ·exact h0 a ⟨i,hi,h1⟩ n
  | _=>exact q
theorem vZ:∀ {as:List AK} {outs:List D} {ρ:Sl} {i:Nat},i∉jh as->(jl as outs ρ)[i]?=ρ[i]?
 | [],outs,ρ,i,h=>by cases outs <;> rfl
 | a::as,[],ρ,i,h=>by cases a <;> rfl
 | .vl::as,d::outs,ρ,i,h=>vZ (as:=as) h
 | .fr::as,d::outs,ρ,i,h=>vZ (as:=as) h
 | .sl j::as,d::outs,ρ,i,h=>by
  have h':i≠j/\i∉jh as:=by simpa [jh] using h
  show (jl as outs (ρ.set j (some d)))[i]?=_
  rw [vZ h'.2,aq (aU h'.1)]
theorem xU:∀ {as:List AK} {outs:List D} {ρ:Sl},(jl as outs ρ).length=ρ.length
 | [],outs,ρ=>by cases outs <;> rfl
 | a::as,[],ρ=>by cases a <;> rfl
 | .vl::as,d::outs,ρ=>xU (as:=as)
 | .fr::as,d::outs,ρ=>xU (as:=as)
 | .sl j::as,d::outs,ρ=>by
  show (jl as outs (ρ.set j (some d))).length=_
  rw [xU,cY]
theorem Qm {F' H':Hp}:∀ {as:List AK} {vs:List V} {ds outs:List D} {ρ:Sl},(jh as).Nodup->(∀ i∈jh as,i < ρ.length)->ArgV K H0 F H σ as vs ds->yi K F' H' (as.map Ql) vs outs->∀ i∈jh as,∃ d a,(jl as outs ρ)[i]?=some (some d)/\σ[i]?=some (some (V.ref a))/\F' a=none/\OwnIs K F' H' a d
 | [],vs,ds,outs,ρ,nd,hl,av,o,i,hi=>by simp [jh] at hi
 | a::as,[],ds,outs,ρ,nd,hl,av,o,i,hi=>by cases a <;> exact av.elim
 | a::as,v::vs,[],outs,ρ,nd,hl,av,o,i,hi=>by cases a <;> exact av.elim
 | a::as,v::vs,d::ds,[],ρ,nd,hl,av,o,i,hi=>by cases a <;> exact o.elim
 | .vl::as,v::vs,d::ds,u::outs,ρ,nd,hl,av,o,i,hi=>Qm (as:=as) nd hl av.2 o i hi
 | .fr::as,v::vs,d::ds,u::outs,ρ,nd,hl,av,o,i,hi=>Qm (as:=as) nd hl av.2 o i hi
 | .sl j::as,v::vs,d::ds,u::outs,ρ,nd,hl,av,o,i,hi=>by
  obtain ⟨ni,nd'⟩:=aI.mp nd
  obtain ⟨h1,_,av2⟩:=av
  obtain ⟨⟨a,e,hF,ow⟩,o2⟩:=o
  subst e
  rcases ac.mp hi with e | hi
  ·subst e
   refine ⟨u,a,?_,h1,hF,ow⟩
   show (jl as outs (ρ.set i (some u)))[i]?=_
   rw [vZ ni,aE (hl i (ac.mpr (.inl rfl)))]
  ·exact Qm (as:=as) (ρ:=ρ.set j (some u)) nd' (fun k hk=>by rw [cY]; exact hl k (aa _ hk)) av2 o2 i hi
end
noncomputable def qv (as:List AK) (G:List D->Out (D×List D)) (fr:Sl->Out (List D×Sl)):Sl->Out (D×Sl):=fun ρ=>(fr ρ).bind fun p=>match qE as p.1 p.2 with
 | some ds=>match G ds with
  | .ok q=>.ok (q.1,jl as q.2 p.2)
  | .exc c o=>.exc c (jl as (o.map (·.getD .non)) p.2)
  | .bad=>.bad
 | none=>.bad
variable {G:List D->Out (D×List D)} {mr:Mo} {CX:CXT} {fd:FuncData} {ps:List Str}
section
variable {fr:Sl->Out (List D×Sl)}
theorem Wt {F' H':Hp} {outs:List D} (rp:Rep C.K own F H σ ρ) (h0:∀ x,OA own σ x->H0 x≠none) (hs:∀ i∈jh as,i∈own) (nd:(jh as).Nodup) (av:ArgV C.K H0 F H σ as vs ds)
  (sb:Same F' H') (c:Chg (LA (as.map Ql) vs) F H F' H') (o:yi C.K F' H' (as.map Ql) vs outs):Rep C.K own F' H' σ (jl as outs ρ):=by
 have pin:=Qm (ρ:=ρ) nd (fun i hi=>by
  obtain ⟨d,e⟩:=rp.opn i (hs i hi)
  exact (aA.mp e).1) av o
 refine ⟨sb,by rw [xU]; exact rp.len,fun i d hi e=>?_,fun i d hi e=>?_,fun i hi=>?_,rp.dis⟩
 ·rw [vZ (fun z=>hi (hs i z))] at e
  obtain ⟨v,h1,h2⟩:=rp.val i d hi e
  exact ⟨v,h1,h2.mono c.grow⟩
 ·by_cases q:i∈jh as
  ·obtain ⟨d',a,e1,e2,e3,e4⟩:=pin i q
   rw [e1] at e
   cases e
   exact ⟨a,e2,e3,e4⟩
  ·rw [vZ q] at e
   obtain ⟨a,h1,h2,h3⟩:=rp.ow i d hi e
   have nl:¬LA (as.map Ql) vs a:=fun z=>by
    rcases kY av z with ⟨j,hj,e'⟩ | ⟨n,_⟩
    ·exact q (by rw [rp.dis i j a hi (hs j hj) h1 e']; exact hj)
    ·exact h0 a ⟨i,hi,h1⟩ n
   refine ⟨a,h1,?_,h3.grow c.grow fun o' q'=>c.keep a o' q' nl⟩
   cases q':F' a with
   | none=>rfl
   | some u=>
    rcases c.new a (by rw [q']; simp) with z | z | z
    ·exact absurd h2 z
    ·exact absurd z h3.there
    ·exact absurd z nl
 ·by_cases q:i∈jh as
  ·obtain ⟨d',a,e1,_⟩:=pin i q
   exact ⟨d',e1⟩
  ·rw [vZ q]
   exact rp.opn i hi
theorem Xa {Q:VK} (hio:∀ i∈C.ox,i∈own) (hs:∀ i∈jh as,i∈own) (nd:(jh as).Nodup) (hf:frA as<=1) (h:tE C own mr (qv as G fr) σ H Q) :
  tAr C own as fr σ H fun vs H1=>spD C.K C.cv (as.map Ql) mr G (vs++[]) H1 Q C.E:=by
 obtain ⟨F,ρ,rp,h⟩:=h
 have h0:∀ x,OA own σ x->H x≠none:=fun x z=>(rp.OA_there z).1
 refine ⟨F,ρ,rp,?_⟩
 unfold qv at h
 cases q0:fr ρ with
 | ok p=>
  rw [q0] at h
  obtain ⟨ds,ρ1⟩:=p
  intro vs F1 H1 rp1 c1 av
  rw [aY]
  have h1:Po C own mr σ F H (match qE as ds ρ1 with | some ds=>(match G ds with | .ok q=>.ok (q.1,jl as q.2 ρ1) | .exc c o=>.exc c (jl as (o.map (·.getD .non)) ρ1) | .bad=>.bad) | none=>.bad) Q:=h
  cases q:qE as ds ρ1 with
  | none=>simp only [q] at h1; exact h1.elim
  | some ds'=>
   simp only [q] at h1
   have lo:∀ x,LA (as.map Ql) vs x->OA own σ x\/H x=none:=fun x z=>by
    rcases kY av z with ⟨i,hi,e⟩ | ⟨n,_⟩
    ·exact .inl ⟨i,hs i hi,e⟩
    ·exact .inr n
   refine ⟨F1,ds',rp1.sub,yk rp1 hs av q,um rp1 h0 hs nd hf av,?_⟩
   cases q2:G ds' with
   | ok p=>
    rw [q2] at h1
    obtain ⟨d,outs⟩:=p
    exact fun v F' H' sb c o mo=>h1 v F' H' (Wt rp1 h0 hs nd av sb c o) (c1.trans c lo) (MoIs.back (Ha:=H1) c1 mo)
   | exc x o=>rw [q2] at h1; exact fun F' H' sb c outs=>h1 F' H' sb ((Wt rp1 h0 hs nd av sb c outs).ioIs hio) (c1.trans c lo)
   | bad=>rw [q2] at h1; exact h1.elim
 | exc c=>rw [q0] at h; exact h
 | bad=>rw [q0] at h; exact h.elim
theorem qcf {k:Nat} {f:Addr} {p pos:Pos} (F:FnOk X.prog X.w X.K X.mg X.base CX k f fd ps (spD C.K C.cv ms mr G)) (hr:Room k X.A) (hg:Gl X x) (hm:X.mg x=some (.ref f)) (hk:keepIn X.K (.ref f)=true) (hb:Binds X.K fd ps []) (hx:wI CX X C.E)
  (ha:PA X (e::es) (tAr C own as fr)) (hms:ms=as.map Ql:=by rfl) (hs:∀ i∈jh as,i∈own:=by decide) (nd:(jh as).Nodup:=by decide) (hf:frA as<=1:=by decide) (hio:∀ i∈C.ox,i∈own:=by exact wK rfl) (hdb:(x == ("__debug__":Str))=false:=by decide) (he:starEach (e::es) X.env=(false,eval e X.env)::starEach es X.env:=by exact jU rfl)
  (hpl:(backTo pos (starEach es X.env)).any (·.1)=false:=by exact yf rfl):PE X (.Call (.Name x p) (e::es) [] pos) (tE C own mr (qv as G fr)):=by
 subst hms
 exact jG (qbX F hr hg hm hk hb .nil hx ha hdb he hpl) fun σ H Q h=>Xa hio hs nd hf h
end
structure ItIs (K:Frag) (F:Hp) (J:It) (ds:List D):Prop where
 go:∀ i H,i < ds.length->Same F H->J.go i H
 yld:∀ i Fi H x H' d,ds[i]?=some d->Same F Fi->Same Fi H->J.yld i H x H'->∃ F',Chg No Fi H F' H'/\Same F' H'/\Is K F' x d
 stop:∀ i H,ds.length<=i->Same F H->J.stop i H
def PoI (C:Ct) (own:List Nat) (σ:St) (F H:Hp) (r:Out (List D×Sl)) (R:It->Hp->Prop):Prop:=match r with
 | .ok (ds,ρ')=>∀ J F' H',Rep C.K own F' H' σ ρ'->Chg (OA own σ) F H F' H'->ItIs C.K F' J ds->R J H'
 | .exc c ρ'=>∀ F' H',Same F' H'->YJ C.K C.ox F' H' σ ρ'->Chg (OA own σ) F H F' H'->C.E (C.cv c) none H'
 | .bad=>False
def tIt (C:Ct) (own:List Nat) (f:Sl->Out (List D×Sl)):TI:=fun σ H R=>∃ F ρ,Rep C.K own F H σ ρ/\PoI C own σ F H (f ρ) R
noncomputable def qed:D->Out (List D)
 | .lst xs=>.ok xs
 | .tup xs=>.ok xs
 | _=>.bad
noncomputable def qhC (f:Sl->Out (D×Sl)):Sl->Out (List D×Sl):=fun ρ=>(f ρ).bind fun p=>(qed p.1).bind fun ds=>.ok (ds,p.2)
theorem PoI.bindV {m:Mo} {k:D×Sl->Out (List D×Sl)} {Q:It->Hp->Prop} {R:VK} (hp:PoI C own σ F H (o.bind k) Q)
  (h:∀ v F1 H1 d ρ1,Rep C.K own F1 H1 σ ρ1->Chg (OA own σ) F H F1 H1->MoIs C.K m H F1 H1 v d->PoI C own σ F H (k (d,ρ1)) Q->R v H1):Po C own m σ F H o R:=by
 cases o with
 | ok p=>exact fun v F1 H1 rp c mo=>h v F1 H1 p.1 p.2 rp c mo hp
 | exc x=>exact hp
 | bad=>exact hp.elim
variable {fb:Sl->Out (Fl×Sl)} {g:D->Sl->Out Sl} {tg iter:Expr} {xs:List V} {gs:List D->Sl->Out Sl} {fi:Sl->Out (List D×Sl)}
section
theorem GJ {t t':TI} (h:PI X tg e t) (i:∀ σ H Q,t' σ H Q->t σ H Q):PI X tg e t':=⟨fun pins s σ H R I hw=>h pins s σ H R I (i σ H R hw)⟩
theorem qee (p:SqL K F a xs) (t:IsL K F xs ds):ItIs K F (Itl K a) ds where
 go:=fun i H hi s=>by
  have hx:i < xs.length:=by rw [t.length]; exact hi
  exact ⟨xs,xs[i],s.seq p,by simp [hx]⟩
 yld:=fun i Fi H x H' d e s1 s2 y=>by
  obtain ⟨rfl,y⟩:=y
  obtain ⟨v,h1,h2⟩:=t.getD e
  have q:=y xs ((s1.trans s2).seq p)
  rw [h1] at q
  cases q
  exact ⟨Fi,.refl,s2,h2.mono s1⟩
 stop:=fun i H hi s=>⟨xs,s.seq p,by rw [t.length]; exact hi⟩
theorem qef (p:SqT K F a xs) (t:IsL K F xs ds):ItIs K F (Itt K a) ds where
 go:=fun i H hi s=>by
  have hx:i < xs.length:=by rw [t.length]; exact hi
  exact ⟨xs,xs[i],qM s p,by simp [hx]⟩
 yld:=fun i Fi H x H' d e s1 s2 y=>by
  obtain ⟨rfl,y⟩:=y
  obtain ⟨v,h1,h2⟩:=t.getD e
  have q:=y xs (qM (s1.trans s2) p)
  rw [h1] at q
  cases q
  exact ⟨Fi,.refl,s2,h2.mono s1⟩
 stop:=fun i H hi s=>⟨xs,qM s p,by rw [t.length]; exact hi⟩
noncomputable def xx (lo:Int) (n:Nat):List D:=(aJ n).map fun k=>.int (lo+(k:Nat))
theorem qeg {lo:Int}:ItIs K F (Itr lo n) (xx lo n) where
 go:=fun i H hi _=>by
  have:i < n:=by simpa [xx] using hi
  exact this
 yld:=fun i Fi H x H' d e s1 s2 y=>by
  obtain ⟨rfl,rfl⟩:=y
  have e:d=.int (lo+i):=by
   unfold xx at e
   rw [aF] at e
   cases q:(aJ n)[i]? with
   | none=>rw [q] at e; cases e
   | some k=>
    rw [q] at e
    have hk:k=i:=by
     have:=aA.mp q
     obtain ⟨_,z⟩:=this
     simpa using z.symm
    subst hk
    exact (bc.inj e).symm
  subst e
  exact ⟨Fi,.refl,s2,.int _⟩
 stop:=fun i H hi _=>by
  have:n<=i:=by simpa [xx] using hi
  exact this
noncomputable def jw (f:Sl->Out (D×Sl)):Sl->Out (List D×Sl):=fun ρ=>(f ρ).bind fun p=>match p.1 with
 | .int j=>if -(2 ^ 62)<=j/\j < 2 ^ 62 then .ok (xx 0 j.toNat,p.2) else .bad
 | _=>.bad
theorem kP {p:Pos} (hg:Gl X "range") (hm:X.mg "range"=none) (h:PE X e (tE C own m f)) (hs:starEach [e] X.env=[(false,eval e X.env)]:=by exact qV rfl):PI X tg (.Call (.Name "range" p) [e] [] pos) (tIt C own (jw f)):=by
 refine GJ (Yp hg hm (qS h jz hs) hs) fun σ H R ⟨F,ρ,rp,h⟩=>⟨F,ρ,rp,PoI.bindV h fun v F1 H1 d ρ1 rp1 c1 mo1 h1=>?_⟩
 cases d with
 | int j=>
  obtain rfl:=mo1.top.int
  have h1:PoI C own σ F H (if -(2 ^ 62)<=j/\j < 2 ^ 62 then .ok (xx 0 j.toNat,ρ1) else .bad) R:=h1
  by_cases z:-(2 ^ 62)<=j/\j < 2 ^ 62
  ·rw [if_pos z] at h1
   exact ⟨j,rfl,z.1,z.2,h1 _ F1 H1 rp1 c1 qeg⟩
  ·rw [if_neg z] at h1; exact h1.elim
 | _=>exact h1.elim
def tGd (C:Ct) (own:List Nat) (g:D->Sl->Out Sl):TG:=fun v σ H Q=>∃ F ρ d,Rep C.K own F H σ ρ/\Is C.K F v d/\∃ ρ',g d ρ=.ok ρ'/\∀ σ',Rep C.K own F H σ' ρ'->(∀ b,OA own σ' b->OA own σ b)->(∀ i∈C.io,σ'[i]?=σ[i]?)->Q σ' H
def qfx (C:Ct) (own:List Nat) (g:List D->Sl->Out Sl):TGs:=fun vs σ H Q=>∃ F ρ ds,Rep C.K own F H σ ρ/\IsL C.K F vs ds/\∃ ρ',g ds ρ=.ok ρ'/\∀ σ',Rep C.K own F H σ' ρ'->(∀ b,OA own σ' b->OA own σ b)->(∀ i∈C.io,σ'[i]?=σ[i]?)->Q σ' H
theorem qeh {t t':TG} (h:PG X e t) (i:∀ v σ H Q,t' v σ H Q->t v σ H Q):PG X e t':=⟨fun pins s σ H v u Q I r hw=>h pins s σ H v u Q I r (i v σ H Q hw)⟩
theorem qbe {t t':TGs} (h:PGs X es t) (i:∀ v σ H Q,t' v σ H Q->t v σ H Q):PGs X es t':=⟨fun pins s σ H v u Q I r hw=>h pins s σ H v u Q I r (i v σ H Q hw)⟩
noncomputable def gNm (i:Nat):D->Sl->Out Sl:=fun d ρ=>if i < ρ.length then .ok (ρ.set i (some d)) else .bad
theorem gM {own:List Nat} (h:i∉own):wF own [i]=own:=by
 unfold wF
 rw [eh]
 intro j hj
 simp only [au,decide_eq_true_eq]
 exact fun z=>h (by rw [<-z]; exact hj)
theorem qw (hN:X.N.Nodup) (hi:X.N[i]?=some x) (hx:Loc X.env.scope x) (ho:i∉own:=by decide) (hio:i∉C.io:=by exact Wg rfl) (hf:X.fn x=true\/X.env.scope.names.lookup x=some .local:=by first | exact .inl rfl | exact .inr rfl):PG X (.Name x pos) (tGd C own (gNm i)):=by
 refine qeh (qbQ hN hi hx hf) fun v σ H Q ⟨F,ρ,d,rp,is,ρ',e,k⟩=>?_
 unfold gNm at e
 by_cases z:i < ρ.length
 ·rw [if_pos z] at e
  cases e
  have r2:=rp.put z is
  rw [gM ho] at r2
  refine k _ r2 (fun b q=>?_) fun j hj=>aq fun q=>hio (by rw [q]; exact hj)
  have q':OA (wF own [i]) (σ.set i (some v)) b:=by rw [gM ho]; exact q
  exact q'.put
 ·rw [if_neg z] at e; cases e
noncomputable def kf:List D->Sl->Out Sl
 | [],ρ=>.ok ρ
 | _::_,_=>.bad
noncomputable def qH (g:D->Sl->Out Sl) (gs:List D->Sl->Out Sl):List D->Sl->Out Sl
 | d::ds,ρ=>(g d ρ).bind fun ρ1=>gs ds ρ1
 | [],_=>.bad
theorem kI:PGs X [] (qfx C own kf):=by
 refine qbe qbR fun vs σ H Q ⟨F,ρ,ds,rp,is,ρ',e,k⟩=>?_
 cases is with
 | nil=>cases e; exact ⟨rfl,k σ rp (fun _ z=>z) fun _ _=>rfl⟩
 | cons _ _=>cases e
theorem qO (h1:PG X e (tGd C own g)) (h2:PGs X es (qfx C own gs)) (hs:(assignEach (e::es) X.env).map (·.2)=assign e X.env::(assignEach es X.env).map (·.2):=by rfl):PGs X (e::es) (qfx C own (qH g gs)):=by
 refine qbe (Gk h1 h2 hs) fun vs σ H Q ⟨F,ρ,ds,rp,is,ρ',e,k⟩=>?_
 cases is with
 | nil=>cases e
 | @cons v d vs ds a t=>
  have e:(g d ρ).bind (fun ρ1=>gs ds ρ1)=.ok ρ':=e
  cases q:g d ρ with
  | ok ρ1=>
   rw [q] at e
   exact ⟨v,vs,rfl,F,ρ,d,rp,a,ρ1,q,fun σ1 rp1 oa1 io1=>⟨F,ρ1,ds,rp1,t,ρ',e,fun σ2 rp2 oa2 io2=>k σ2 rp2 (fun b z=>oa1 b (oa2 b z)) fun i hi=>(io2 i hi).trans (io1 i hi)⟩⟩
  | exc c=>rw [q] at e; cases e
  | bad=>rw [q] at e; cases e
noncomputable def kg (n:Nat) (gs:List D->Sl->Out Sl):D->Sl->Out Sl
 | .tup ds,ρ=>if ds.length=n then gs ds ρ else .bad
 | _,_=>.bad
theorem wa {k:Nat} (hK:C.K=X.K) (hc:X.calm=true) (h:PGs X es (qfx C own gs)) (hn:(assignEach es X.env).length=n:=by rfl) (hst:(assignEach es X.env).findIdx? (·.1)=none:=by rfl):PG X (.Tuple es k pos) (tGd C own (kg n gs)):=by
 refine qeh (qdH hc h hn hst) fun v σ H Q ⟨F,ρ,d,rp,is,ρ',e,k⟩=>?_
 cases is with
 | @tup a xs ds p t=>
  have e:(if ds.length=n then gs ds ρ else .bad)=.ok ρ':=e
  by_cases z:ds.length=n
  ·rw [if_pos z] at e
   exact ⟨a,xs,rfl,by rw [<-hK]; exact qM rp.sub p,by rw [t.length]; exact z,F,ρ,ds,rp,t,ρ',e,k⟩
  ·rw [if_neg z] at e; cases e
 | _=>cases e
noncomputable def qgf (fe:Sl->Out (D×Sl)) (g:D->Sl->Out Sl):Sl->Out (Fl×Sl):=fun ρ=>(fe ρ).bind fun p=>match g p.1 p.2 with
 | .ok ρ'=>.ok (.nx,ρ')
 | _=>.bad
theorem qcg (he:PE X e (tE C own m f)) (hg:PG X tg (tGd C own g)) (hm:m≠.any:=by decide) (hs:swapsWithSole [tg] e pos.line X.env=pure false:=by rfl) (hw:swappedStores [tg] e X.env=pure none:=by rfl)
  (h1:(assignEach [tg] X.env).map (·.2)=[assign tg X.env]:=by rfl):PS X (.Assign [tg] e pos) (tSt C own own (qgf f g)):=by
 refine gz (qa8 (uM he hm) hg hs hw h1) fun D σ H ⟨F,ρ,rp,h⟩=>⟨F,ρ,rp,PoS.bindE h fun v F1 H1 d ρ1 rp1 c1 mo1 h1=>?_⟩
 cases q:g d ρ1 with
 | ok ρ'=>
  simp only [q] at h1
  exact ⟨F1,ρ1,d,rp1,mo1,ρ',q,fun σ' rp' oa io=>h1 σ' F1 H1 ⟨rp',.refl,fun b z=>.inl (oa b z),io⟩⟩
 | exc c=>simp only [q] at h1; exact h1.elim
 | bad=>simp only [q] at h1; exact h1.elim
noncomputable def vk (g:D->Sl->Out Sl) (fb:Sl->Out (Fl×Sl)):List D->Sl->Out (Fl×Sl)
 | [],ρ=>.ok (.nx,ρ)
 | d::ds,ρ=>(g d ρ).plain.bind fun ρ1=>(fb ρ1).bind fun p=>match p.1 with
  | .nx=>vk g fb ds p.2
  | .ct=>vk g fb ds p.2
  | .bk=>.ok (.nx,p.2)
  | .rt v=>.ok (.rt v,p.2)
noncomputable def gA (fi:Sl->Out (List D×Sl)) (g:D->Sl->Out Sl) (fb:Sl->Out (Fl×Sl)):Sl->Out (Fl×Sl):=fun ρ=>(fi ρ).bind fun p=>vk g fb p.1 p.2
theorem jP {body:List Stmt} {fb:Sl->Out (Fl×Sl)} (hp:PassesOwn (model X.prog X.w) X.A X.env X.xe) (hc:X.calm=true) (hi:PI X tg iter (tIt C own fi)) (hg:PG X tg (tGd C own g))
  (hb:PSs X body (tSt { C with ol:=own } own own fb)) (hs:∀ x,foldedSetIterable iter X.env x=pure x:=by intro _; rfl):PS X (.For tg iter body [] pos) (tSt C own own (gA fi g fb)):=by
 refine gz (qdK hp hc hi hg hb hs) fun D σ H ⟨F,ρ,rp,h⟩=>⟨F,ρ,rp,?_⟩
 unfold gA at h
 cases q0:fi ρ with
 | exc c=>rw [q0] at h; exact h
 | bad=>rw [q0] at h; exact h.elim
 | ok p=>
  rw [q0] at h
  obtain ⟨ds,ρ1⟩:=p
  intro J F1 H1 rp1 c1 it
  have h:PoS C own own σ F H (vk g fb ds ρ1) D:=h
  refine ⟨fun i m σ' H'=>m=ds.length - i/\i<=ds.length/\∃ F' ρ',Nx C own own σ F H ρ' σ' F' H'/\Same F1 F'/\PoS C own own σ' F' H' (vk g fb (ds.drop i) ρ') D,⟨ds.length,by simp,bq _,F1,ρ1,.ofE rp1 c1,Same.refl _,h.shift (.ofE rp1 c1)⟩,?_⟩
  rintro i m σ' H' ⟨rfl,hle,F',ρ',nx,gr,po⟩
  by_cases hlt:i < ds.length
  ·have hd:ds.drop i=ds[i]::ds.drop (i+1):=List.drop_eq_getElem_cons hlt
   rw [hd] at po
   have po:PoS C own own σ' F' H' ((g ds[i] ρ').plain.bind fun ρ1=>(fb ρ1).bind fun p=>match p.1 with | .nx=>vk g fb (ds.drop (i+1)) p.2 | .ct=>vk g fb (ds.drop (i+1)) p.2 | .bk=>.ok (.nx,p.2) | .rt v=>.ok (.rt v,p.2)) D:=po
   refine .inr ⟨it.go i H' hlt (gr.trans nx.rep.sub),fun σ2 H2=>ds.length - (i+1)=ds.length - (i+1)/\i+1<=ds.length/\∃ F' ρ',Nx C own own σ F H ρ' σ2 F' H2/\Same F1 F'/\PoS C own own σ2 F' H2 (vk g fb (ds.drop (i+1)) ρ') D,fun σ2 H2 q=>⟨ds.length - (i+1),by omega,q⟩,fun x H2 y=>?_⟩
   obtain ⟨F2,c2,s2,is2⟩:=it.yld i F' H' x H2 ds[i] (by simp [hlt]) gr nx.rep.sub y
   cases q1:g ds[i] ρ' with
   | exc c=>rw [q1] at po; exact po.elim
   | bad=>rw [q1] at po; exact po.elim
   | ok ρ2=>
    rw [q1] at po
    refine ⟨F2,ρ',ds[i],nx.rep.grow c2 s2,is2,ρ2,q1,fun σ3 rp3 oa3 io3=>⟨F2,ρ2,rp3,?_⟩⟩
    have n3:Nx C own own σ' F' H' ρ2 σ3 F2 H2:=⟨rp3,c2.ofNo,fun b z=>.inl (oa3 b z),io3⟩
    have po3:=PoS.shift (show PoS C own own σ' F' H' ((fb ρ2).bind fun p=>match p.1 with | .nx=>vk g fb (ds.drop (i+1)) p.2 | .ct=>vk g fb (ds.drop (i+1)) p.2 | .bk=>.ok (.nx,p.2) | .rt v=>.ok (.rt v,p.2)) D from po) n3
    have up:∀ {ρ4 σ4 F4 H4},Nx { C with ol:=own } own own σ3 F2 H2 ρ4 σ4 F4 H4->Nx C own own σ3 F2 H2 ρ4 σ4 F4 H4:=fun z=>⟨z.rep,z.chg,z.oa,z.io⟩
    cases q2:fb ρ2 with
    | exc c=>rw [q2] at po3; exact po3
    | bad=>rw [q2] at po3; exact po3.elim
    | ok p=>
     rw [q2] at po3
     obtain ⟨fl,ρ4⟩:=p
     cases fl with
     | nx=>exact fun σ4 F4 H4 n4=>⟨rfl,hlt,F4,ρ4,(nx.then n3).then (up n4),(gr.trans c2.grow).trans n4.chg.grow,PoS.shift (show PoS C own own σ3 F2 H2 (vk g fb (ds.drop (i+1)) ρ4) D from po3) (up n4)⟩
     | ct=>exact fun σ4 F4 H4 n4=>⟨rfl,hlt,F4,ρ4,(nx.then n3).then (up n4),(gr.trans c2.grow).trans n4.chg.grow,PoS.shift (show PoS C own own σ3 F2 H2 (vk g fb (ds.drop (i+1)) ρ4) D from po3) (up n4)⟩
     | bk=>exact fun σ4 F4 H4 n4=>po3 σ4 F4 H4 (up n4)
     | rt d=>exact fun v σ4 F4 H4 s io c e mo=>po3 v σ4 F4 H4 s io c e mo
  ·have e:i=ds.length:=by omega
   subst e
   rw [List.drop_length] at po
   exact .inl ⟨it.stop _ H' (aB _) (gr.trans nx.rep.sub),po σ' F' H' (.refl nx.rep)⟩
noncomputable def kh (ft:Sl->Out (Bool×Sl)) (fb:Sl->Out (Fl×Sl)):Nat->Sl->Out (Fl×Sl)
 | 0,_=>.bad
 | n+1,ρ=>(ft ρ).bind fun q=>if q.1=true then (fb q.2).bind fun p=>match p.1 with
  | .nx=>kh ft fb n p.2
  | .ct=>kh ft fb n p.2
  | .bk=>.ok (.nx,p.2)
  | .rt v=>.ok (.rt v,p.2)
  else .ok (.nx,q.2)
theorem Xb {t:Expr} {body:List Stmt} (n:Nat) (hp:PassesOwn (model X.prog X.w) X.A X.env X.xe) (ht:PT X t (tT C own ft)) (hb:PSs X body (tSt { C with ol:=own } own own fb)) :
  PS X (.While t body [] pos) (tSt C own own (kh ft fb n)):=by
 refine gz (Gm hp ht hb) fun D σ H ⟨F,ρ,rp,h⟩=>?_
 refine ⟨fun m σ' H'=>∃ F' ρ',Rep C.K own F' H' σ' ρ'/\PoS C own own σ' F' H' (kh ft fb m ρ') D,⟨n,F,ρ,rp,h⟩,?_⟩
 rintro m σ1 H1 ⟨F1,ρ1,rp1,po⟩
 refine ⟨F1,ρ1,rp1,?_⟩
 cases m with
 | zero=>exact po.elim
 | succ m=>
  have po:PoS C own own σ1 F1 H1 ((ft ρ1).bind fun q=>if q.1=true then (fb q.2).bind fun p=>match p.1 with | .nx=>kh ft fb m p.2 | .ct=>kh ft fb m p.2 | .bk=>.ok (.nx,p.2) | .rt v=>.ok (.rt v,p.2) else .ok (.nx,q.2)) D:=po
  refine PoS.bindT po fun F2 H2 k ρ2 rp2 c2 h2=>?_
  cases k with
  | false=>exact h2 σ1 F2 H2 (.refl rp2)
  | true=>
   refine ⟨fun σ3 H3=>∃ F' ρ',Rep C.K own F' H3 σ3 ρ'/\PoS C own own σ3 F' H3 (kh ft fb m ρ') D,fun σ3 H3 q=>⟨m,by omega,q⟩,F2,ρ2,rp2,?_⟩
   have h2:PoS C own own σ1 F2 H2 ((fb ρ2).bind fun p=>match p.1 with | .nx=>kh ft fb m p.2 | .ct=>kh ft fb m p.2 | .bk=>.ok (.nx,p.2) | .rt v=>.ok (.rt v,p.2)) D:=h2
   have up:∀ {ρ4 σ4 F4 H4},Nx { C with ol:=own } own own σ1 F2 H2 ρ4 σ4 F4 H4->Nx C own own σ1 F2 H2 ρ4 σ4 F4 H4:=fun z=>⟨z.rep,z.chg,z.oa,z.io⟩
   cases q2:fb ρ2 with
   | exc c=>rw [q2] at h2; exact h2
   | bad=>rw [q2] at h2; exact h2.elim
   | ok p=>
    rw [q2] at h2
    obtain ⟨fl,ρ4⟩:=p
    cases fl with
    | nx=>exact fun σ4 F4 H4 n4=>⟨F4,ρ4,n4.rep,PoS.shift (show PoS C own own σ1 F2 H2 (kh ft fb m ρ4) D from h2) (up n4)⟩
    | ct=>exact fun σ4 F4 H4 n4=>⟨F4,ρ4,n4.rep,PoS.shift (show PoS C own own σ1 F2 H2 (kh ft fb m ρ4) D from h2) (up n4)⟩
    | bk=>exact fun σ4 F4 H4 n4=>h2 σ4 F4 H4 (up n4)
    | rt d=>exact fun v σ4 F4 H4 s io c e mo=>h2 v σ4 F4 H4 s io c e mo
end
noncomputable def Jy (cells:List (Str×Addr)):List (Str×NameKind)->List (Str×Addr)->List (Str×Addr)
 | [],acc=>acc
 | (n,k)::r,acc=>if (k == .free)=true then Jy cells r ((n,(cells.lookup n).getD 0)::acc) else Jy cells r acc
variable {env:Env}
theorem wM:∀ (names:List (Str×NameKind)) (acc:List (Str×Addr)),(∀ x∈names,x.2=.free->∃ c,env.cells.lookup x.1=some c) ->
  (forIn names acc fun (x:Str×NameKind) (cs:List (Str×Addr))=>if (x.2 == bx)=true then (do let a <-cellOf env x.1; pure (cr ((x.1,a)::cs))) else pure (cr cs):Sem (List (Str×Addr)))=pure (Jy env.cells names acc)
 | [],acc,_=>rfl
 | (n,k)::r,acc,h=>by
  rw [List.forIn_cons]
  by_cases q:(k == bx)=true
  ·obtain ⟨c,hc⟩:=h (n,k) ai (by simpa using q)
   have e:cellOf env n=pure c:=by unfold cellOf; rw [hc]
   simp only [q,if_true,e]
   have ih:=wM r ((n,c)::acc) (fun x hx=>h x (aa _ hx))
   simp only [Jy,q,if_true,hc,Option.getD_some]
   exact ih
  ·simp only [q,if_false,Jy]
   exact wM r acc (fun x hx=>h x (aa _ hx))
variable {scope:Scope}
theorem gN (h:∀ x∈scope.names,x.2=.free->∃ c,env.cells.lookup x.1=some c):closureFor scope env=pure (Jy env.cells scope.names []):=by
 have:=wM scope.names [] h
 unfold closureFor
 simp only [bind_pure]
 exact this
variable {cells:List (Str×Addr)}
theorem uP:∀ {names:List (Str×NameKind)} {acc:List (Str×Addr)} {x:Str} {c:Addr},(∀ y∈names,y.2=.free->∃ c,cells.lookup y.1=some c)->(Jy cells names acc).lookup x=some c->cells.lookup x=some c\/acc.lookup x=some c
 | [],acc,x,c,_,h=>.inr h
 | (n,k)::r,acc,x,c,hf,h=>by
  unfold Jy at h
  by_cases q:(k == bx)=true
  ·rw [if_pos q] at h
   obtain ⟨c',hc⟩:=hf (n,k) ai (by simpa using q)
   rcases uP (fun y hy=>hf y (aa _ hy)) h with z | z
   ·exact .inl z
   ·rw [dZ] at z
    have hc:cells.lookup n=some c':=hc
    by_cases e:(x == n)=true
    ·rw [e] at z
     simp only [hc,Option.getD_some] at z
     have:x=n:=by simpa using e
     subst this
     rw [hc]; exact .inl z
    ·have e:(x == n)=false:=by simpa using e
     rw [e] at z
     exact .inr z
  ·rw [if_neg q] at h
   exact uP (fun y hy=>hf y (aa _ hy)) h
theorem Qn:∀ {names:List (Str×NameKind)} {acc:List (Str×Addr)} {x:Str},(∃ c,acc.lookup x=some c)->∃ c,(Jy cells names acc).lookup x=some c
 | [],_,_,h=>h
 | (n,k)::r,acc,x,h=>by
  unfold Jy
  by_cases q:(k == bx)=true
  ·rw [if_pos q]
   refine Qn ?_
   obtain ⟨c,hc⟩:=h
   rw [dZ]
   by_cases e:(x == n)=true
   ·rw [e]; exact ⟨_,rfl⟩
   ·have e:(x == n)=false:=by simpa using e
    rw [e]; exact ⟨c,hc⟩
  ·rw [if_neg q]; exact Qn h
theorem xV:∀ {names:List (Str×NameKind)} {acc:List (Str×Addr)} {x:Str},(x,bx)∈names->∃ c,(Jy cells names acc).lookup x=some c
 | (n,k)::r,acc,x,h=>by
  unfold Jy
  rcases ac.mp h with e | h
  ·cases e
   rw [if_pos (by rfl)]
   refine Qn ?_
   rw [dZ,beq_self_eq_true]
   exact ⟨_,rfl⟩
  ·by_cases q:(k == bx)=true
   ·rw [if_pos q]; exact xV h
   ·rw [if_neg q]; exact xV h
noncomputable def jR (X:Cx) (scope:Scope) (N:List Str) (fp:List Addr) (L:Addr) (s:Shared) (H:Hp):Cx:=
 { X with N:=N,s₀:=s,H₀:=H,env:=compEnvC scope (Jy X.env.cells scope.names []) L X.env,outer:=X.stack,stack:=X.stack,ex:=fp,fn:=fun _=>false,pn:=[],xe:=fun _ _=>False }
structure ScOk (X:Cx) (scope:Scope):Prop where
 kind:scope.kind=.function
 nocell:∀ y∈scope.names,y.2≠.cell
 names:∀ y∈scope.names,y.2=.local->scope.names.lookup y.1=some .local
 free:∀ y∈scope.names,y.2=.free->X.env.kindOf y.1=some .cell\/X.env.kindOf y.1=some .free
 frl:∀ y∈scope.names,y.2=.free->scope.names.lookup y.1=some .free
theorem uo {a:α}:∀ {l:List (Str×α)},l.lookup x=some a->(x,a)∈l
 | [],h=>by simp at h
 | (n,k)::r,h=>by
  rw [dZ] at h
  by_cases e:(x == n)=true
  ·rw [e] at h
   have h:some k=some a:=h
   cases h
   have:x=n:=by simpa using e
   subst this
   exact ai
  ·have e:(x == n)=false:=by simpa using e
   rw [e] at h
   exact aa _ (uo h)
theorem xy {k:NameKind} (h:(relabel scope env).names.lookup x=some k) (hk:k=.cell\/k=.free) (hn:∀ y∈scope.names,y.2≠.cell):(x,bx)∈scope.names:=by
 have m:=uo h
 obtain ⟨⟨n,k'⟩,hm,e⟩:=ah.mp m
 dsimp only at e
 by_cases q:(k' == bx&&env.scope.kind == .function&&env.kindOf n == some .cell)=true
 ·rw [if_pos q] at e
  cases e
  have:k'=.free:=by
   rw [aR,aR] at q
   simpa using q.1.1
  subst this
  exact hm
 ·rw [if_neg q] at e
  cases e
  rcases hk with rfl | rfl
  ·exact absurd rfl (hn _ hm)
  ·exact hm
theorem JS (h:Vis (relabel scope env) x):∃ k,(x,k)∈scope.names:=by
 have go:∀ {k:NameKind},(relabel scope env).names.lookup x=some k->∃ k,(x,k)∈scope.names:=fun {k} h=>by
  obtain ⟨⟨n,k'⟩,hm,e⟩:=ah.mp (uo h)
  dsimp only at e
  by_cases q:(k' == bx&&env.scope.kind == .function&&env.kindOf n == some .cell)=true
  ·rw [if_pos q] at e
   cases e
   exact ⟨_,hm⟩
  ·rw [if_neg q] at e
   cases e
   exact ⟨_,hm⟩
 rcases h with h | h | h <;> exact go h
variable {pins:List (Addr×Obj)} {σc:St} {s s':Shared} {fp:List Addr} {h':Heap}
section
theorem zy (I:Inv X pins σ H s) (S:ScOk X scope):∀ y∈scope.names,y.2=.free->∃ c,X.env.cells.lookup y.1=some c:=fun y hy e=>I.ok.has y.1 (S.free y hy e)
theorem GK (I:Inv X pins σ H s) (S:ScOk X scope) (hf:∀ b∈fp,KP X pins H b) (ho:∀ b∈fp,b < s.heap.objs.size) (hns:h'.Ns s.heap.objs.size (fun _=>none))
  (hk:∀ b o,s.heap.get? b=some o->h'.get? b=some o) (hl:σc.length=N.length)
  (hσ:∀ (j:Nat) (x:Str) (v:V),N[j]?=some x->σc[j]?=some (some v)->(∃ k,(x,k)∈scope.names)->∃ i:Nat,X.N[i]?=some x/\σ[i]?=some (some v)/\Vis X.env.scope x/\(x,bx)∈scope.names) {t:Nat} :
  Inv (jR X scope N fp s.heap.objs.size s H) [] σc H { s with heap:=h',toks:=t }:=by
 have hfc:=zy I S
 have cl:∀ x c,(Jy X.env.cells scope.names []).lookup x=some c->X.env.cells.lookup x=some c:=fun x c e=>(uP hfc e).resolve_right (by simp)
 have nfs:∀ b∈fp,b∉frs X.stack:=fun b hb z=>by
  obtain ⟨f0,f1,f2,_⟩:=hf b hb
  rcases ac.mp (I.stkSub b z) with e | e
  ·exact f1 e
  ·exact f2 e
 refine ⟨⟨I.ok.mod,?_,I.ok.glob,I.ok.blt,aB _,fun x y c h1 h2=>I.ok.inj x y c (cl x c h1) (cl y c h2),fun x hx=>?_,fun x c h=>absurd h (by show ¬(false=true); exact br),I.ok.hd,I.ok.frames,.inl rfl,fun b hb=>⟨aD (ho b hb),fun x c e z=>?_⟩,I.bs,be I.ok.bsz I.sz,fun b o e hb=>?_,nfs,I.stack,I.stkFree⟩,
  rfl,I.bare,Un.kept hk,⟨_,hns,fun j x v e1 e2 e3=>?_⟩,fun x c e=>?_,I.hok.fresh (aB _),fun x c e=>I.freeC x c (cl x c e),fun p hp=>absurd (show p∈([]:List (Addr×Obj)) from hp) (by simp),I.hok.kept hk,hl⟩
 ·exact S.kind
 ·refine xV ?_
  rcases hx with hx | hx
  ·exact xy hx (.inl rfl) S.nocell
  ·exact xy hx (.inr rfl) S.nocell
 ·exact (hf b hb).2.2.2.2.1 x c (cl x c e) z
 ·rcases (hf b hb).2.2.2.1 with z | z
  ·exact I.ok.noex b o e z
  ·have hlt:=ap e
   exact absurd (aH hlt (be I.ok.bsz z)) (bR _)
 ·obtain ⟨i,g1,g2,g3,g4⟩:=hσ j x v e1 e2 (JS e3)
  obtain ⟨m,hn,hl'⟩:=I.loc
  obtain ⟨u,r,look⟩:=hl' i x v g1 g2 g3
  refine ⟨u,r,?_⟩
  obtain ⟨c0,hc0⟩:=xV (cells:=X.env.cells) (acc:=[]) g4
  have hce:=cl x c0 hc0
  have kd:(jR X scope N fp s.heap.objs.size s H).env.kindOf x=some .cell\/(jR X scope N fp s.heap.objs.size s H).env.kindOf x=some .free\/(jR X scope N fp s.heap.objs.size s H).env.kindOf x=some .local:=by
   rcases e3 with z | z | z
   ·exact .inr (.inr z)
   ·exact .inl z
   ·exact .inr (.inl z)
  rcases look with ⟨k,_⟩ | ⟨k,c,hc,z⟩
  ·rcases S.free _ g4 rfl with q | q
   ·have q:X.env.kindOf x=some .cell:=q
    rw [k] at q; cases q
   ·have q:X.env.kindOf x=some .free:=q
    rw [k] at q; cases q
  ·rw [hce] at hc
   cases hc
   obtain ⟨oc,ho1,ho2⟩:=z
   rcases kd with q | q | q
   ·exact .inr ⟨.inl q,c0,hc0,⟨oc,hk _ _ ho1,ho2⟩⟩
   ·exact .inr ⟨.inr q,c0,hc0,⟨oc,hk _ _ ho1,ho2⟩⟩
   ·refine absurd q ?_
    intro q
    have m2:=uo (show (relabel scope X.env).names.lookup x=some .local from q)
    obtain ⟨⟨n,k'⟩,hm,e⟩:=ah.mp m2
    dsimp only at e
    by_cases qq:(k' == bx&&X.env.scope.kind == .function&&X.env.kindOf n == some .cell)=true
    ·rw [if_pos qq] at e; cases e
    ·rw [if_neg qq] at e
     cases e
     have e1:=S.names _ hm rfl
     have e2:=S.frl _ g4 rfl
     have e1:scope.names.lookup x=some .local:=e1
     have e2:scope.names.lookup x=some .free:=e2
     rw [e1] at e2
     cases e2
 ·obtain ⟨v,oc,ho1,ho2⟩:=I.cell x c (cl x c e)
  exact ⟨v,oc,hk _ _ ho1,ho2⟩
theorem GL {H1:Hp} {s1:Shared} {L:Addr} (I:Inv X pins σ H s) (hf:∀ b∈fp,KP X pins H b) (J:Inv (jR X scope N fp s.heap.objs.size s H) [] σc H' s') (sb:bL s.heap.objs.size s'.heap h'):Inv X pins σ H' { s' with heap:=h' }:=by
 have hL:H' s.heap.objs.size=none:=J.free
 have ne:∀ b o,s.heap.get? b=some o->b≠s.heap.objs.size:=fun b o e=>aD (ap e)
 have U:Un (frs X.stack) fp H H' s.heap s'.heap:=J.base
 refine I.call' (s':={ s' with heap:=h' }) (ch:=fp) J.os ⟨fun b o e n h1 h2=>(sb.2 b (ne b o e)).trans (U.keep b o e n h1 h2),fun b o e n h1 h2=>?_,U.free,fun b o e h2=>?_,U.tups,U.frzs,U.tbls⟩ (fun b u e=>?_) J.bare fun b hb=>?_
 ·obtain ⟨sl,q⟩:=U.slot b o e n h1 h2
  exact ⟨sl,(sb.2 b (ne b o e)).trans q⟩
 ·obtain ⟨o',q⟩:=U.there b o e h2
  exact ⟨o',(sb.2 b (ne b o e)).trans q⟩
 ·refine (J.hok b u e).stay (fun c w hc q=>(sb.2 c ?_).trans q) (fun _ q=>q) fun _ _ q=>q
  rintro rfl
  rcases hc with z | z
  ·rw [<-z,hL] at e; cases e
  ·rw [hL] at z; cases z
 ·obtain ⟨f0,f1,f2,f3,f4,f5⟩:=hf b hb
  exact ⟨f3,f1,f4,f5⟩
end
theorem Qo {prog:Program} {w:World} {A:Around} {R:Result->Shared->Prop} {s:Shared} {elt target iter:Expr} {ifs:List Expr} {scope:Scope} {pos:Pos} {it acc:Value} {env:Env} (I:Nat->Shared->Prop)
  (turn:∀ n s,I n s->wpAny (model prog w) A (pyNext it) (fun r s₁=>match r with
   | none=>R (.ok .next) s₁
   | some v=>wpAny (model prog w) A (letOwnedTupleGo target it v) (fun _ t₁=>wpAny (model prog w) A (assign target env v) (fun _ s₂=>
     wpAny (model prog w) A (forIn ifs true fun c r=>if r=true then do let ok <-isTrue c env (eval c env); pure (cr ok) else pure (cr r)) (fun ok s₃=>
      if ok=true then wpAny (model prog w) A (eval elt env) (fun x s₄=>
       wpAny (model prog w) A (call (.builtin "list.append") [acc,x]) (fun _ s₅=>∃ m,m < n/\I m s₅) (fun _ _=>False) s₄) (fun _ _=>False) s₃
      else ∃ m,m < n/\I m s₃) (fun _ _=>False) s₂) (fun _ _=>False) t₁) (fun _ _=>False) s₁) (fun _ _=>False) s)
  (n:Nat) (h:I n s):codeAny (model prog w) A (.compLoop (.ListComp elt [⟨target,iter,ifs,0⟩] scope pos) 0 it acc env) R s:=by
 have no:∀ {α:Type} {t:Sem α} {Q Q':α->Shared->Prop} {E':Value->Shared->Prop} {s:Shared},wpAny (model prog w) A t Q (fun _ _=>False) s->(∀ a s,Q a s->Q' a s)->wpAny (model prog w) A t Q' E' s:=fun h k=>wpAny_mono h k fun _ _ z=>z.elim
 refine codeAny_loop rfl I (fun n s hI=>?_) n h
 show wpAny _ A ((compTurn (.ListComp elt [⟨target,iter,ifs,0⟩] scope pos) 0 it acc env).onRaise (fun x=>do noteFrame x env; theTreesLotGoes x)) _ _ s
 refine wpAny_noted ?_
 rw [compTurn_list]
 refine wpAny_bind (wpAny_standAt (wpAny_bind (no (turn n s hI) fun r s₁ h₁=>?_)))
 cases r with
 | none=>exact wpAny_pure h₁
 | some v=>
  refine wpAny_bind (no h₁ fun _ t₁ k₁=>wpAny_bind (no k₁ fun _ s₂ h₂=>wpAny_bind (no h₂ fun ok s₃ h₃=>?_)))
  cases ok with
  | false=>exact wpAny_pure ⟨rfl,h₃⟩
  | true=>exact wpAny_bind (wpAny_bind (no h₃ fun x s₄ h₄=>wpAny_bind (no h₄ fun _ s₅ h₅=>wpAny_pure (wpAny_pure ⟨rfl,h₅⟩))))
structure PTs (Y:Cx) (ifs:List Expr) (t:TT):Prop where
 run:∀ (pins:List (Addr×Obj)) (s:Shared) (σ:St) (H:Hp) (Q:Bool->Hp->Prop),Inv Y pins σ H s->t σ H Q ->
  wpAny (model Y.prog Y.w) Y.A (forIn ifs true fun c r=>if r=true then do let ok <-isTrue c Y.env (eval c Y.env); pure (cr ok) else pure (cr r)) (TP Y pins σ Q) Y.xe s
instance {Y:Cx} {ifs:List Expr} {t:TT}:CoeFun (PTs Y ifs t) (fun _=>∀ (pins:List (Addr×Obj)) (s:Shared) (σ:St) (H:Hp) (Q:Bool->Hp->Prop),Inv Y pins σ H s->t σ H Q ->
  wpAny (model Y.prog Y.w) Y.A (forIn ifs true fun c r=>if r=true then do let ok <-isTrue c Y.env (eval c Y.env); pure (cr ok) else pure (cr r)) (TP Y pins σ Q) Y.xe s):=⟨fun h=>h.run⟩
variable {Y:Cx}
theorem qch:PTs Y [] (fun _ H Q=>Q true H):=⟨fun _ _ _ H _ I h=>wpAny_tests_nil ⟨H,I,h⟩⟩
theorem Qp {t:TT} (h:PT Y c t):PTs Y [c] t:=⟨fun pins s σ H Q I q=>wpAny_tests_one (h pins s σ H Q I q)⟩
variable {ifs:List Expr}
section
variable {it:Addr} {tn:Nat->Heap->Prop} {J:It} {elt:Expr} {g:TG} {tt:TT} {te:TE} {E:Value->Shared->Prop}
theorem GM (I:Inv X pins σ H s) (hcalm:X.calm=true) (S:ScOk X scope) (T:Turn X.prog X.w X.K tg J fp it tn) (st0:tn 0 s.heap) (hf:∀ b∈fp,KP X pins H b)
  (hg:∀ fp L s' H',PG (jR X scope N fp L s' H') tg g) (ht:∀ fp L s' H',PTs (jR X scope N fp L s' H') ifs tt) (he:∀ fp L s' H',PE (jR X scope N fp L s' H') elt te) (hl:σc.length=N.length)
  (hσ:∀ (j:Nat) (x:Str) (v:V),N[j]?=some x->σc[j]?=some (some v)->(∃ k,(x,k)∈scope.names)->∃ i:Nat,X.N[i]?=some x/\σ[i]?=some (some v)/\Vis X.env.scope x/\(x,bx)∈scope.names)
  (W:Addr->Nat->Nat->St->Hp->Prop) (Fin:Addr->Hp->Prop) (w0:∀ p,H p=none->∃ m,W p 0 m σc (upd H p (.lst [])))
  (turn:∀ p i m σ1 H1,W p i m σ1 H1->(J.stop i H1/\Fin p H1)\/(J.go i H1/\∀ x H2,J.yld i H1 x H2->g x σ1 H2 fun σ2 H3=>tt σ2 H3 fun b H4=>if b=true then te σ2 H4 fun y H5=>∃ xs,H5 p=some (.lst xs)/\xs.length < sizeLine/\∃ m',m' < m/\W p (i+1) m' σ2 (upd H5 p (.lst (xs++[y]))) else ∃ m',m' < m/\W p (i+1) m' σ2 H4))
  (RR:Value->Addr->Result->Shared->Prop)
  (hRR:∀ p L H' s',Fin p H'->(∃ m,s'.heap.Ns L m)->KP X pins H' L->(∀ h',bL L s'.heap h'->Inv X pins σ H' { s' with heap:=h' })->RR (.ref p) L (.ok .next) s') :
  wpAny (model X.prog X.w) X.A (newList []) (fun acc s₃=>wpAny (model X.prog X.w) X.A (newFunctionEnv scope X.env.globals (Jy X.env.cells scope.names []) [] X.env.qual none .none (some X.env)) (fun cenv s₄=>
   codeAny (model X.prog X.w) X.A (.compStart (.ListComp elt [⟨tg,iter,ifs,0⟩] scope pos) 0 (.ref it) acc { cenv with scope:=relabel scope X.env }) (RR acc cenv.locals) s₄) E s₃) E s:=by
 have hfo:∀ b∈fp,b < s.heap.objs.size:=fun b hb=>let ⟨o,e,_⟩:=T.obj 0 _ st0 b hb; ap e
 have hfresh:=I.fresh
 have I3:Inv X pins σ (upd H s.heap.objs.size (.lst [])) { s with heap:=s.heap.push { cls:=.type "list",data:=.seq ([]:List Value).toArray } }:=I.lnew (t':=s.toks) (ys:=[]) (its:=[]) .nil (bq _)
 have hf3:∀ b∈fp,KP X pins (upd H s.heap.objs.size (.lst [])) b:=fun b hb=>⟨by rw [qB (aD (hfo b hb))]; exact (hf b hb).1,(hf b hb).2⟩
 have st3:tn 0 (s.heap.push { cls:=.type "list",data:=.seq ([]:List Value).toArray }):=T.keep 0 _ _ st0 fun b hb o e=>ae _ e
 refine wpAny_newObj_type (wpAny_newFunctionEnv S.nocell (fun y hy=>by simp at hy) (fun h₁ hns₁ hsb₁=>?_) S.kind)
 dsimp only at hns₁ hsb₁ ⊢
 generalize hs3:({ s with heap:=s.heap.push { cls:=.type "list",data:=.seq ([]:List Value).toArray } }:Shared)=s3 at I3
 have e3:s3.heap=s.heap.push { cls:=.type "list",data:=.seq ([]:List Value).toArray }:=by rw [<-hs3]
 rw [<-e3] at hns₁ hsb₁ st3 ⊢
 have keep:∀ b o,s3.heap.get? b=some o->h₁.get? b=some o:=fun b o e=>(hsb₁.2 b (aD (ap e))).trans (ae _ e)
 have ho3:∀ b∈fp,b < s3.heap.objs.size:=fun b hb=>by rw [e3,cA]; exact eF (hfo b hb)
 have J1:Inv (jR X scope N fp s3.heap.objs.size s3 (upd H s.heap.objs.size (.lst []))) [] σc (upd H s.heap.objs.size (.lst [])) { s3 with heap:=h₁,toks:=s.toks+0 }:=
  GK I3 S hf3 ho3 (by simpa using hns₁) keep hl hσ
 have st4:tn 0 h₁:=T.keep 0 _ _ st3 fun b hb o e=>keep b o e
 have loop:∀ s4:Shared,s4={ s3 with heap:=h₁,toks:=s.toks+0 }->codeAny (model X.prog X.w) X.A (.compLoop (.ListComp elt [⟨tg,iter,ifs,0⟩] scope pos) 0 (.ref it) (.ref s.heap.objs.size) (compEnvC scope (Jy X.env.cells scope.names []) s3.heap.objs.size X.env)) (RR (.ref s.heap.objs.size) s3.heap.objs.size) s4:=by
  rintro s4 rfl
  generalize hY:jR X scope N fp s3.heap.objs.size s3 (upd H s.heap.objs.size (.lst []))=Y at J1
  have eP:Y.prog=X.prog:=by rw [<-hY]; rfl
  have ew:Y.w=X.w:=by rw [<-hY]; rfl
  have eA:Y.A=X.A:=by rw [<-hY]; rfl
  have ee:Y.env=compEnvC scope (Jy X.env.cells scope.names []) s3.heap.objs.size X.env:=by rw [<-hY]; rfl
  have eK:Y.K=X.K:=by rw [<-hY]; rfl
  have ec:Y.calm=true:=by rw [<-hY]; exact hcalm
  have ex:Y.xe=fun _ _=>False:=by rw [<-hY]; rfl
  have hgY:PG Y tg g:=by rw [<-hY]; exact hg fp _ _ _
  have htY:PTs Y ifs tt:=by rw [<-hY]; exact ht fp _ _ _
  have heY:PE Y elt te:=by rw [<-hY]; exact he fp _ _ _
  have stat:∀ {H1:Hp},(∀ b∈fp,H1 b=none)->∀ b∈fp,KP Y [] H1 b:=fun hn b hb=>by
   have q:=J1.ok.exf b (by rw [<-hY]; exact hb)
   refine ⟨hn b hb,q.1,J1.ok.exfs b (by rw [<-hY]; exact hb),.inl (by rw [<-hY]; exact hb),q.2,fun p hp=>?_⟩
   rw [<-hY] at hp
   exact absurd (show p∈([]:List (Addr×Obj)) from hp) (by simp)
  obtain ⟨m0,hm0⟩:=w0 s.heap.objs.size hfresh
  refine Qo (fun n s'=>∃ i σ1 H1,Inv Y [] σ1 H1 s'/\tn i s'.heap/\(∀ b∈fp,H1 b=none)/\W s.heap.objs.size i n σ1 H1) ?_ m0 ⟨0,σc,_,J1,st4,fun b hb=>(hf3 b hb).1,hm0⟩
  rintro n s5 ⟨i,σ1,H1,J5,st5,fr5,w5⟩
  rw [<-eP,<-ew,<-eA,<-ee]
  have TY:Turn Y.prog Y.w Y.K tg J fp it tn:=by rw [eP,ew,eK]; exact T
  rcases turn _ i n σ1 H1 w5 with ⟨stop,fin⟩ | ⟨go,step⟩
  ·refine thn (TY.done Y rfl rfl rfl ec i [] s5 σ1 H1 _ J5 (stat fr5) st5 stop) fun r s6 ⟨hr,J6⟩=>?_
   subst hr
   have J6':Inv (jR X scope N fp s3.heap.objs.size s3 (upd H s.heap.objs.size (.lst []))) [] σ1 H1 s6:=by rw [hY]; exact J6
   exact hRR _ _ H1 s6 fin (let ⟨m,hn,_⟩:=J6'.loc; ⟨m,hn⟩) (I3.fpOk (aB _) J6'.free) fun h' sb=>GL (s1:=s6) (H1:=H1) (L:=0) I3 hf3 J6' sb
  ·refine thn (TY.item Y rfl rfl rfl ec i [] s5 σ1 H1 _ J5 (stat fr5) st5 go) fun r s6 ⟨u,hr,h6⟩=>?_
   subst hr
   refine thn h6 fun _ s7 ⟨x,H7,J7,r7,y7,st7,fr7⟩=>?_
   have J7':=J7.pinned (stat fr7) (TY.obj _ _ st7)
   have back:∀ {σ9:St} {H9:Hp} {s9:Shared},Inv Y ([]++JD fp s7.heap) σ9 H9 s9->(∃ m',m' < n/\W s.heap.objs.size (i+1) m' σ9 H9)->∃ m,m < n/\∃ i σ1 H1,Inv Y [] σ1 H1 s9/\tn i s9.heap/\(∀ b∈fp,H1 b=none)/\W s.heap.objs.size i m σ1 H1:=fun {σ9 H9 s9} J9 ⟨m',hm,w9⟩=>by
    refine ⟨m',hm,i+1,σ9,H9,J9.unpinned,TY.keep _ _ _ st7 fun b hb o e=>(J9.pin (b,o) (aK _ (aK _ (uj hb e)))).1,fun b hb=>?_,w9⟩
    obtain ⟨o,e,d⟩:=TY.obj _ _ st7 b hb
    exact (J9.pin (b,o) (aK _ (aK _ (uj hb e)))).2.1
   rw [<-ex]
   refine thn (hgY _ s7 σ1 H7 x u _ J7' r7 (step x H7 y7)) fun _ s8 ⟨σ8,H8,J8,q8⟩=>?_
   refine thn (htY _ s8 σ8 H8 _ J8 q8) fun ok s9 ⟨H9,J9,q9⟩=>?_
   cases ok with
   | false=>exact back J9 q9
   | true=>
    refine thn (heY _ s9 σ8 H9 _ J9 q9) fun v s10 ⟨y,H10,J10,r10,xs,hx,hlen,q10⟩=>?_
    exact thn (JH _ s10 σ8 H10 (.ref s.heap.objs.size) [y] (.ref s.heap.objs.size) [v] (fun _ H11=>∃ m',m' < n/\W s.heap.objs.size (i+1) m' σ8 H11) J10 rfl (.cons r10 .nil) ⟨_,xs,y,rfl,rfl,hx,hlen,q10⟩) fun _ s11 ⟨_,H11,J11,_,q11⟩=>back J11 q11
 have e4:({ heap:=h₁,gens:=s.gens,drawn:=s.drawn,toks:=s.toks+([]:List (Str×Value)).length,os:=s.os }:Shared)={ s3 with heap:=h₁,toks:=s.toks+0 }:=by rw [<-hs3]; rfl
 exact codeAny_compStart_list (loop _ e4) (T.self _ 0 _ _ _ st4 (loop _ e4))
end
noncomputable def kJ (nt:Nat) (cap:List Nat) (ρ:List (Option α)):List (Option α):=bu nt none++cap.map fun k=>(ρ[k]?).getD none
noncomputable def uQ (own:List Nat):Nat->List Nat->List Nat
 | _,[]=>[]
 | n,k::cap=>if k∈own then n::uQ own (n+1) cap else uQ own (n+1) cap
noncomputable def ioC (nt len:Nat):List Nat:=(aJ len).map (nt + ·)
noncomputable def jF (own:List Nat) (ρc:Sl):Nat->List Nat->Sl->Sl
 | _,[],ρ=>ρ
 | n,k::cap,ρ=>if k∈own then jF own ρc (n+1) cap (ρ.set k ((ρc[n]?).getD none)) else jF own ρc (n+1) cap ρ
variable {nt:Nat} {cap:List Nat}
theorem get_cap {ρ:List (Option α)} {d:α}:(kJ nt cap ρ)[i]?=some (some d)↔∃ j k,i=nt+j/\cap[j]?=some k/\ρ[k]?=some (some d):=by
 unfold kJ
 constructor
 ·intro h
  by_cases hi:i < nt
  ·rw [bY (by simpa using hi),bQ] at h
   split at h <;> cases h
  ·rw [bA (by simpa using hi),c7,aF] at h
   cases q:cap[i - nt]? with
   | none=>rw [q] at h; cases h
   | some k=>
    rw [q] at h
    have h:(ρ[k]?).getD none=some d:=bc.inj h
    refine ⟨i - nt,k,by omega,q,?_⟩
    cases q2:ρ[k]? with
    | none=>rw [q2] at h; cases h
    | some o=>rw [q2] at h; exact congrArg some h
 ·rintro ⟨j,k,rfl,h1,h2⟩
  rw [bA (by simp),c7,aF,show nt+j - nt=j by omega,h1]
  simp [h2]
theorem mem_ownC {own:List Nat}:∀ {n:Nat} {cap:List Nat} {i:Nat},i∈uQ own n cap↔∃ j k,i=n+j/\cap[j]?=some k/\k∈own
 | n,[],i=>by simp [uQ]
 | n,k::cap,i=>by
  have ih:=@mem_ownC own (n+1) cap i
  unfold uQ
  by_cases hk:k∈own
  ·rw [if_pos hk,ac,ih]
   constructor
   ·rintro (rfl | ⟨j,k',e,h1,h2⟩)
    ·exact ⟨0,k,rfl,rfl,hk⟩
    ·exact ⟨j+1,k',by omega,by simpa using h1,h2⟩
   ·rintro ⟨j,k',e,h1,h2⟩
    cases j with
    | zero=>exact .inl (by omega)
    | succ j=>exact .inr ⟨j,k',by omega,by simpa using h1,h2⟩
  ·rw [if_neg hk,ih]
   constructor
   ·rintro ⟨j,k',e,h1,h2⟩
    exact ⟨j+1,k',by omega,by simpa using h1,h2⟩
   ·rintro ⟨j,k',e,h1,h2⟩
    cases j with
    | zero=>simp at h1; subst h1; exact absurd h2 hk
    | succ j=>exact ⟨j,k',by omega,by simpa using h1,h2⟩
theorem mem_ioC {len:Nat}:i∈ioC nt len↔∃ j,j < len/\i=nt+j:=by
 unfold ioC
 rw [ah]
 constructor
 ·rintro ⟨j,h1,h2⟩; exact ⟨j,bJ.mp h1,h2.symm⟩
 ·rintro ⟨j,h1,h2⟩; exact ⟨j,bJ.mpr h1,h2.symm⟩
variable {ρc:Sl}
theorem yS:∀ {n:Nat} {cap:List Nat} {ρ:Sl},(jF own ρc n cap ρ).length=ρ.length
 | _,[],_=>rfl
 | n,k::cap,ρ=>by
  unfold jF
  by_cases hk:k∈own
  ·rw [if_pos hk,yS,cY]
  ·rw [if_neg hk,yS]
theorem kQ:∀ {n:Nat} {cap:List Nat} {ρ:Sl} {i:Nat},¬(i∈cap/\i∈own)->(jF own ρc n cap ρ)[i]?=ρ[i]?
 | _,[],_,_,_=>rfl
 | n,k::cap,ρ,i,h=>by
  unfold jF
  have h':¬(i∈cap/\i∈own):=fun z=>h ⟨aa _ z.1,z.2⟩
  by_cases hk:k∈own
  ·rw [if_pos hk,kQ h',aq (fun e=>h ⟨ac.mpr (.inl e.symm),by rw [<-e]; exact hk⟩)]
  ·rw [if_neg hk,kQ h']
theorem yl:∀ {n:Nat} {cap:List Nat} {ρ:Sl} {j k:Nat} {d:D},cap.Nodup->cap[j]?=some k->k∈own->k < ρ.length->ρc[n+j]?=some (some d)->(jF own ρc n cap ρ)[k]?=some (some d)
 | _,[],_,_,_,_,_,h,_,_,_=>by simp at h
 | n,k0::cap,ρ,0,k,d,nd,h,hk,hl,e=>by
  simp at h; subst h
  obtain ⟨n1,n2⟩:=aI.mp nd
  unfold jF
  rw [if_pos hk,kQ (fun z=>n1 z.1),aE hl]
  have e:ρc[n]?=some (some d):=e
  rw [e]; rfl
 | n,k0::cap,ρ,j+1,k,d,nd,h,hk,hl,e=>by
  obtain ⟨n1,n2⟩:=aI.mp nd
  have h:cap[j]?=some k:=by simpa using h
  have e:ρc[n+1+j]?=some (some d):=by rw [show n+1+j=n+(j+1) by omega]; exact e
  unfold jF
  by_cases hk0:k0∈own
  ·rw [if_pos hk0]; exact yl n2 h hk (by rw [cY]; exact hl) e
  ·rw [if_neg hk0]; exact yl n2 h hk hl e
section
theorem Vk {ρ:List (Option α)}:(kJ nt cap ρ).length=nt+cap.length:=by simp [kJ]
theorem Xc {l:List Nat} (h:l.Nodup) {j k:Nat} (a:l[i]?=some k) (b:l[j]?=some k):i=j:=by
 obtain ⟨h1,e1⟩:=aA.mp a
 obtain ⟨h2,e2⟩:=aA.mp b
 exact (eQ h).mp (e1.trans e2.symm)
theorem qci (rp:Rep K own F H σ ρ) (nd:cap.Nodup):Rep K (uQ own nt cap) F H (kJ nt cap σ) (kJ nt cap ρ) where
 sub:=rp.sub
 len:=by rw [Vk,Vk]
 val:=fun i d hi e=>by
  obtain ⟨j,k,rfl,h1,h2⟩:=get_cap.mp e
  obtain ⟨v,g1,g2⟩:=rp.val k d (fun z=>hi (mem_ownC.mpr ⟨j,k,rfl,h1,z⟩)) h2
  exact ⟨v,get_cap.mpr ⟨j,k,rfl,h1,g1⟩,g2⟩
 ow:=fun i d hi e=>by
  obtain ⟨j,k,rfl,h1,h2⟩:=get_cap.mp e
  obtain ⟨j',k',e',h1',h2'⟩:=mem_ownC.mp hi
  have:j=j':=by omega
  subst this
  rw [h1] at h1'; cases h1'
  obtain ⟨a,g1,g2⟩:=rp.ow k d h2' h2
  exact ⟨a,get_cap.mpr ⟨j,k,rfl,h1,g1⟩,g2⟩
 opn:=fun i hi=>by
  obtain ⟨j,k,rfl,h1,h2⟩:=mem_ownC.mp hi
  obtain ⟨d,e⟩:=rp.opn k h2
  exact ⟨d,get_cap.mpr ⟨j,k,rfl,h1,e⟩⟩
 dis:=fun i i' a hi hi' e e'=>by
  obtain ⟨j,k,rfl,h1,h2⟩:=mem_ownC.mp hi
  obtain ⟨j',k',rfl,h1',h2'⟩:=mem_ownC.mp hi'
  obtain ⟨x,y,q1,q2,q3⟩:=get_cap.mp e
  obtain ⟨x',y',q1',q2',q3'⟩:=get_cap.mp e'
  have:x=j:=by omega
  subst this
  have:x'=j':=by omega
  subst this
  rw [h1] at q2; cases q2
  rw [h1'] at q2'; cases q2'
  have e:=rp.dis k k' a h2 h2' q3 q3'
  subst e
  rw [Xc nd h1 h1']
theorem Xd (hio:∀ i∈ioC nt cap.length,σ1[i]?=(kJ nt cap σ)[i]?) (h:OA (uQ own nt cap) σ1 b):OA own σ b:=by
 obtain ⟨i,hi,e⟩:=h
 obtain ⟨j,k,rfl,h1,h2⟩:=mem_ownC.mp hi
 rw [hio _ (mem_ioC.mpr ⟨j,(aA.mp h1).1,rfl⟩)] at e
 obtain ⟨x,y,q1,q2,q3⟩:=get_cap.mp e
 have:x=j:=by omega
 subst this
 rw [h1] at q2; cases q2
 exact ⟨k,h2,q3⟩
theorem Xe (rp:Rep K own F H σ ρ) (nd:cap.Nodup) (rp1:Rep K (uQ own nt cap) F' H' σ1 ρ1) (hio:∀ i∈ioC nt cap.length,σ1[i]?=(kJ nt cap σ)[i]?) (c:Chg (OA (uQ own nt cap) σ1) F H F' H'):Rep K own F' H' σ (jF own ρ1 nt cap ρ) where
 sub:=rp1.sub
 len:=by rw [yS]; exact rp.len
 val:=fun i d hi e=>by
  rw [kQ (fun z=>hi z.2)] at e
  obtain ⟨v,h1,h2⟩:=rp.val i d hi e
  exact ⟨v,h1,h2.mono c.grow⟩
 ow:=fun i d hi e=>by
  by_cases q:i∈cap
  ·obtain ⟨j,hj⟩:=List.getElem?_of_mem q
   have hm:nt+j∈uQ own nt cap:=mem_ownC.mpr ⟨j,i,rfl,hj,hi⟩
   obtain ⟨d',hd'⟩:=rp1.opn _ hm
   obtain ⟨d0,hd0⟩:=rp.opn i hi
   rw [yl nd hj hi (aA.mp hd0).1 hd'] at e
   cases e
   obtain ⟨a,h1,h2⟩:=rp1.ow _ _ hm hd'
   rw [hio _ (mem_ioC.mpr ⟨j,(aA.mp hj).1,rfl⟩)] at h1
   obtain ⟨x,y,q1,q2,q3⟩:=get_cap.mp h1
   have:x=j:=by omega
   subst this
   rw [hj] at q2; cases q2
   exact ⟨a,q3,h2⟩
  ·rw [kQ (fun z=>q z.1)] at e
   obtain ⟨a,h1,h2,h3⟩:=rp.ow i d hi e
   have na:¬OA (uQ own nt cap) σ1 a:=fun z=>by
    obtain ⟨i',hi',e'⟩:=z
    obtain ⟨j,k,rfl,g1,g2⟩:=mem_ownC.mp hi'
    rw [hio _ (mem_ioC.mpr ⟨j,(aA.mp g1).1,rfl⟩)] at e'
    obtain ⟨x,y,q1,q2,q3⟩:=get_cap.mp e'
    have:x=j:=by omega
    subst this
    rw [g1] at q2; cases q2
    have e:=rp.dis i k a hi g2 h1 q3
    subst e
    exact q (aP g1)
   refine ⟨a,h1,?_,h3.grow c.grow fun o z=>c.keep a o z na⟩
   cases qq:F' a with
   | none=>rfl
   | some u=>
    rcases c.new a (by rw [qq]; simp) with z | z | z
    ·exact absurd h2 z
    ·exact absurd z h3.there
    ·exact absurd z na
 opn:=fun i hi=>by
  by_cases q:i∈cap
  ·obtain ⟨j,hj⟩:=List.getElem?_of_mem q
   have hm:nt+j∈uQ own nt cap:=mem_ownC.mpr ⟨j,i,rfl,hj,hi⟩
   obtain ⟨d',hd'⟩:=rp1.opn _ hm
   obtain ⟨d0,hd0⟩:=rp.opn i hi
   exact ⟨d',yl nd hj hi (aA.mp hd0).1 hd'⟩
  ·rw [kQ (fun z=>q z.1)]
   exact rp.opn i hi
 dis:=rp.dis
end
noncomputable def ym (g:D->Sl->Out Sl) (ft:Sl->Out (Bool×Sl)) (fe:Sl->Out (D×Sl)) (d:D) (ρ:Sl):Out (Option D×Sl):=
 (g d ρ).plain.bind fun ρ1=>(ft ρ1).plain.bind fun q=>if q.1=true then (fe q.2).plain.bind fun r=>.ok (some r.1,r.2) else .ok (none,q.2)
noncomputable def jx (g:D->Sl->Out Sl) (ft:Sl->Out (Bool×Sl)) (fe:Sl->Out (D×Sl)):List D->Sl->Out (List D×Sl)
 | [],ρ=>.ok ([],ρ)
 | d::ds,ρ=>(ym g ft fe d ρ).bind fun p=>(jx g ft fe ds p.2).bind fun q=>.ok (p.1.toList++q.1,q.2)
noncomputable def jC (own:List Nat) (nt:Nat) (cap:List Nat) (fi:Sl->Out (List D×Sl)) (g:D->Sl->Out Sl) (ft:Sl->Out (Bool×Sl)) (fe:Sl->Out (D×Sl)):Sl->Out (D×Sl):=fun ρ=>(fi ρ).bind fun p=>
 if p.1.length<=sizeLine then (jx g ft fe p.1 (kJ nt cap p.2)).bind fun q=>.ok (.lst q.1,jF own q.2 nt cap p.2) else .bad
noncomputable def ctC (C:Ct) (nt len:Nat):Ct:=⟨C.K,C.cv,fun _ _ _=>False,ioC nt len,.sh,[],[],fun _ h=>absurd h (by simp)⟩
noncomputable def ftT:Sl->Out (Bool×Sl):=fun ρ=>.ok (true,ρ)
theorem jy:PTs Y [] (tT C own ftT):=⟨fun pins s σ H Q I ⟨F,ρ,rp,h⟩=>qch pins s σ H Q I (h F H rp .refl)⟩
structure CW (C:Ct) (own:List Nat) (nt:Nat) (cap:List Nat) (σ:St) (F H F0:Hp) (g:D->Sl->Out Sl) (ft:Sl->Out (Bool×Sl)) (fe:Sl->Out (D×Sl)) (ds ys:List D) (ρe:Sl) (p:Addr) (i:Nat) (σ1:St) (H1:Hp) (F1:Hp) (ρi:Sl) (accD:List D) (xs:List V) (rest:List D):Prop where
 rep:Rep C.K (uQ own nt cap) F1 H1 σ1 ρi
 io:∀ i∈ioC nt cap.length,σ1[i]?=(kJ nt cap σ)[i]?
 chg:Chg (OA (uQ own nt cap) σ1) F H F1 H1
 gr:Same F0 F1
 at_:H1 p=some (.lst xs)
 nF:F1 p=none
 is:IsL C.K F1 xs accD
 le:accD.length<=i
 run:jx g ft fe (ds.drop i) ρi=.ok (rest,ρe)
 all:accD++rest=ys
variable {ρe:Sl}
theorem Ux {rest:List D} (h:jx g ft fe (d::ds) ρ=.ok (rest,ρe)) :
  ∃ ρ1,g d ρ=.ok ρ1/\∃ b ρ2,ft ρ1=.ok (b,ρ2)/\((b=true/\∃ y ρ3 r,fe ρ2=.ok (y,ρ3)/\jx g ft fe ds ρ3=.ok (r,ρe)/\rest=y::r)\/(b=false/\jx g ft fe ds ρ2=.ok (rest,ρe))):=by
 unfold jx ym at h
 cases q1:g d ρ with
 | exc c=>rw [q1] at h; cases h
 | bad=>rw [q1] at h; cases h
 | ok ρ1=>
  rw [q1] at h
  refine ⟨ρ1,rfl,?_⟩
  simp only [Out.plain,Out.ok_bind] at h
  cases q2:ft ρ1 with
  | exc c=>rw [q2] at h; cases h
  | bad=>rw [q2] at h; cases h
  | ok p=>
   obtain ⟨b,ρ2⟩:=p
   rw [q2] at h
   refine ⟨b,ρ2,rfl,?_⟩
   simp only [Out.plain,Out.ok_bind] at h
   cases b with
   | true=>
    refine .inl ⟨rfl,?_⟩
    simp only [if_true] at h
    cases q3:fe ρ2 with
    | exc c=>rw [q3] at h; cases h
    | bad=>rw [q3] at h; cases h
    | ok p=>
     obtain ⟨y,ρ3⟩:=p
     rw [q3] at h
     simp only [Out.plain,Out.ok_bind] at h
     cases q4:jx g ft fe ds ρ3 with
     | exc c=>rw [q4] at h; cases h
     | bad=>rw [q4] at h; cases h
     | ok p=>
      obtain ⟨r,ρ4⟩:=p
      rw [q4] at h
      simp only [Out.ok_bind] at h
      cases h
      exact ⟨y,ρ3,r,rfl,q4,rfl⟩
   | false=>
    refine .inr ⟨rfl,?_⟩
    simp only [Bool.false_eq_true,if_false,Out.ok_bind] at h
    cases q4:jx g ft fe ds ρ2 with
    | exc c=>rw [q4] at h; cases h
    | bad=>rw [q4] at h; cases h
    | ok p=>
     obtain ⟨r,ρ4⟩:=p
     rw [q4] at h
     simp only [Out.ok_bind] at h
     cases h
     rfl
section
variable {elt:Expr} {me:Mo}
structure CapOk (X:Cx) (scope:Scope) (N:List Str) (nt:Nat) (cap:List Nat):Prop where
 nd:cap.Nodup
 len:N.length=nt+cap.length
 at_:∀ (j k:Nat),cap[j]?=some k->∃ x,N[nt+j]?=some x/\X.N[k]?=some x/\((Vis X.env.scope x/\(x,bx)∈scope.names)\/∀ k',(x,k')∉scope.names)
theorem JT {F:Hp} {ρ1:Sl} {it:Addr} {fp:List Addr} {tn:Nat->Heap->Prop} {J:It} {E:Value->Shared->Prop} {ds ys:List D} {ρe:Sl} (I:Inv X pins σ H s) (hcalm:X.calm=true) (S:ScOk X scope) (CO:CapOk X scope N nt cap)
  (T:Turn X.prog X.w X.K tg J fp it tn) (st0:tn 0 s.heap) (hf:∀ b∈fp,KP X pins H b) (rp:Rep C.K own F H σ ρ1) (itI:ItIs C.K F J ds) (hz:ds.length<=sizeLine)
  (hg:∀ fp L s' H',PG (jR X scope N fp L s' H') tg (tGd (ctC C nt cap.length) (uQ own nt cap) g)) (ht:∀ fp L s' H',PTs (jR X scope N fp L s' H') ifs (tT (ctC C nt cap.length) (uQ own nt cap) ft))
  (he:∀ fp L s' H',PE (jR X scope N fp L s' H') elt (tE (ctC C nt cap.length) (uQ own nt cap) me fe)) (hme:me≠.any)
  (hrun:jx g ft fe ds (kJ nt cap ρ1)=.ok (ys,ρe)) (RR:Value->Addr->Result->Shared->Prop)
  (hRR:∀ p L s' F' H',H p=none->Rep C.K own F' H' σ (jF own ρe nt cap ρ1)->Chg (OA own σ) F H F' H'->F' p=none->OwnIs C.K F' H' p (.lst ys)->(∃ m,s'.heap.Ns L m)->KP X pins H' L->(∀ h',bL L s'.heap h'->Inv X pins σ H' { s' with heap:=h' })->RR (.ref p) L (.ok .next) s') :
  wpAny (model X.prog X.w) X.A (newList []) (fun acc s₃=>wpAny (model X.prog X.w) X.A (newFunctionEnv scope X.env.globals (Jy X.env.cells scope.names []) [] X.env.qual none .none (some X.env)) (fun cenv s₄=>
   codeAny (model X.prog X.w) X.A (.compStart (.ListComp elt [⟨tg,iter,ifs,0⟩] scope pos) 0 (.ref it) acc { cenv with scope:=relabel scope X.env }) (RR acc cenv.locals) s₄) E s₃) E s:=by
 have oaH:∀ {σ1:St} {b:Addr},(∀ i∈ioC nt cap.length,σ1[i]?=(kJ nt cap σ)[i]?)->OA (uQ own nt cap) σ1 b->H b≠none:=fun hio z=>(rp.OA_there (Xd hio z)).1
 refine GM (σc:=kJ nt cap σ) I hcalm S T st0 hf hg ht (fun fp L s' H'=>uM (he fp L s' H') hme) (by rw [Vk,CO.len]) (fun j x v e1 e2 e3=>?_)
  (fun p i m σ1 H1=>H p=none/\m=ds.length - i/\i<=ds.length/\∃ F1 ρi accD xs rest,CW C own nt cap σ F H F g ft fe ds ys ρe p i σ1 H1 F1 ρi accD xs rest)
  (fun p H1=>H p=none/\∃ σ1 F1 xs,Rep C.K (uQ own nt cap) F1 H1 σ1 ρe/\(∀ i∈ioC nt cap.length,σ1[i]?=(kJ nt cap σ)[i]?)/\Chg (OA (uQ own nt cap) σ1) F H F1 H1/\H1 p=some (.lst xs)/\F1 p=none/\IsL C.K F1 xs ys) (fun p hp=>?_) ?_ RR ?_
 ·obtain ⟨j',k,rfl,h1,h2⟩:=get_cap.mp e2
  obtain ⟨y,g1,g2,g3⟩:=CO.at_ j' k h1
  rw [g1] at e1; cases e1
  obtain ⟨k',hk'⟩:=e3
  rcases g3 with ⟨g3,g4⟩ | g3
  ·exact ⟨k,g2,h2,g3,g4⟩
  ·exact absurd hk' (g3 k')
 ·obtain ⟨r1,c1,hF⟩:=YV (C:=C) (u:=.lst []) (qci (nt:=nt) rp CO.nd) hp
  exact ⟨ds.length,hp,by simp,bq _,F,kJ nt cap ρ1,[],[],ys,r1,fun _ _=>rfl,c1.ofNo,Same.refl _,qr,hF,.nil,aB _,by simpa using hrun,rfl⟩
 ·rintro p i m σ1 H1 ⟨hp,rfl,hle,F1,ρi,accD,xs,rest,w⟩
  by_cases hlt:i < ds.length
  ·have hd:ds.drop i=ds[i]::ds.drop (i+1):=List.drop_eq_getElem_cons hlt
   have run:=w.run
   rw [hd] at run
   obtain ⟨ρa,ea,b,ρb,eb,hrest⟩:=Ux run
   have sub1:Same F H1:=w.gr.trans w.rep.sub
   refine .inr ⟨itI.go i H1 hlt sub1,fun x H2 y=>?_⟩
   obtain ⟨F2,c2,s2,is2⟩:=itI.yld i F1 H1 x H2 ds[i] (by simp [hlt]) w.gr w.rep.sub y
   have rp2:=w.rep.grow c2 s2
   have nop:∀ {σ9:St},(∀ i∈ioC nt cap.length,σ9[i]?=(kJ nt cap σ)[i]?)->¬OA (uQ own nt cap) σ9 p:=fun hio z=>oaH hio z hp
   have keepP:∀ {A:Addr->Prop} {Fa Ha Fb Hb:Hp} {zs:List V},Chg A Fa Ha Fb Hb->¬A p->Ha p=some (.lst zs)->Fa p=none->Hb p=some (.lst zs)/\Fb p=none:=fun {A Fa Ha Fb Hb zs} c na e1 e2=>by
    refine ⟨c.keep p _ e1 na,?_⟩
    cases q:Fb p with
    | none=>rfl
    | some u=>
     rcases c.new p (by rw [q]; simp) with z | z | z
     ·exact absurd e2 z
     ·rw [e1] at z; cases z
     ·exact absurd z na
   obtain ⟨at2,nF2⟩:=keepP c2 (fun z=>z) w.at_ w.nF
   refine ⟨F2,ρi,ds[i],rp2,is2,ρa,ea,fun σ3 rp3 oa3 io3=>?_⟩
   have io3':∀ i∈ioC nt cap.length,σ3[i]?=(kJ nt cap σ)[i]?:=fun i hi=>(io3 i hi).trans (w.io i hi)
   refine ⟨F2,ρa,rp3,?_⟩
   rw [eb]
   intro F4 H4 rp4 c4
   obtain ⟨at4,nF4⟩:=keepP c4 (nop io3') at2 nF2
   have chg4:Chg (OA (uQ own nt cap) σ3) F H F4 H4:=by
    have q1:Chg (OA own σ) F H F1 H1:=w.chg.mono fun b z=>Xd w.io z
    have mv:∀ {b},OA (uQ own nt cap) σ1 b->OA (uQ own nt cap) σ3 b:=fun {b} z=>by
     obtain ⟨i',hi',e'⟩:=z
     obtain ⟨j,k,rfl,g1,g2⟩:=mem_ownC.mp hi'
     have hm:nt+j∈ioC nt cap.length:=mem_ioC.mpr ⟨j,(aA.mp g1).1,rfl⟩
     exact ⟨nt+j,hi',by rw [io3' _ hm,<-w.io _ hm]; exact e'⟩
    exact ((w.chg.mono fun b z=>mv z).trans' c2.ofNo).trans' c4
   have gr4:Same F F4:=(w.gr.trans c2.grow).trans c4.grow
   have is4:IsL C.K F4 xs accD:=(w.is.mono c2.grow).mono c4.grow
   rcases hrest with ⟨rfl,y',ρc,r,ec,er,hr⟩ | ⟨rfl,er⟩
   ·rw [if_pos rfl]
    refine ⟨F4,ρb,rp4,?_⟩
    rw [ec]
    intro v F5 H5 rp5 c5 mo5
    obtain ⟨at5,nF5⟩:=keepP c5 (nop io3') at4 nF4
    have hlen:xs.length=accD.length:=is4.length
    refine ⟨xs,at5,by have:=w.le; omega,ds.length - (i+1),by omega,hp,rfl,hlt,F5,ρc,accD++[y'],xs++[v],r,?_⟩
    have cp:Chg (fun b=>b=p) F5 H5 F5 (upd H5 p (.lst (xs++[v]))):=⟨fun b o e n=>by rw [qB n]; exact e,fun b e=>by
     by_cases q:b=p
     ·rw [q,qr]; simp
     ·rw [qB q]; exact e,Same.refl _,fun b e=>.inl e⟩
    have sb5:Same F5 (upd H5 p (.lst (xs++[v]))):=fun b o e=>by rw [qB (qI e nF5)]; exact rp5.sub b o e
    have rp6:Rep C.K (uQ own nt cap) F5 (upd H5 p (.lst (xs++[v]))) σ3 ρc:=by
     refine ⟨sb5,rp5.len,rp5.val,fun i d hi e=>?_,rp5.opn,rp5.dis⟩
     obtain ⟨a,h1,h2,h3⟩:=rp5.ow i d hi e
     have na:a≠p:=fun z=>by subst z; exact nop io3' ⟨i,hi,h1⟩
     exact ⟨a,h1,h2,h3.grow (Same.refl _) fun o z=>by rw [qB na]; exact z⟩
    refine ⟨rp6,io3',?_,(gr4.trans c5.grow),qr,nF5,(is4.mono c5.grow).append (.cons mo5 .nil),by simp only [af,ao,bv]; have:=w.le; omega,er,?_⟩
    ·exact (chg4.trans' c5).trans cp fun b z=>.inr (by rw [z]; exact hp)
    ·rw [aM,<-w.all,hr]; rfl
   ·rw [if_neg br]
    exact ⟨ds.length - (i+1),by omega,hp,rfl,hlt,F4,ρb,accD,xs,rest,rp4,io3',chg4,gr4,at4,nF4,is4,by have:=w.le; omega,er,w.all⟩
  ·have e:i=ds.length:=by omega
   subst e
   have run:=w.run
   rw [List.drop_length] at run
   unfold jx at run
   cases run
   have ha:=w.all
   rw [aY] at ha
   subst ha
   exact .inl ⟨itI.stop _ H1 (aB _) (w.gr.trans w.rep.sub),hp,σ1,F1,xs,w.rep,w.io,w.chg,w.at_,w.nF,w.is⟩
 ·rintro p L H' s' ⟨hp,σ1,F1,xs,r1,io1,c1,e1,n1,is1⟩ hns hfp hinv
  exact hRR p L s' F1 H' hp (Xe rp CO.nd r1 io1 c1) (c1.mono fun b z=>Xd io1 z) n1 ⟨xs,e1,is1⟩ hns hfp hinv
theorem Vl:∀ (ds:List D) (ρ:Sl) (c:Str) (o:Sl),jx g ft fe ds ρ≠.exc c o:=by
 intro ds
 induction ds with
 | nil=>intro ρ c o z; cases z
 | cons d ds ih=>
  intro ρ c o z
  unfold jx ym at z
  cases q1:g d ρ with
  | exc c=>rw [q1] at z; cases z
  | bad=>rw [q1] at z; cases z
  | ok ρ1=>
   rw [q1] at z
   simp only [Out.plain,Out.ok_bind] at z
   cases q2:ft ρ1 with
   | exc c=>rw [q2] at z; cases z
   | bad=>rw [q2] at z; cases z
   | ok p=>
    rw [q2] at z
    simp only [Out.plain,Out.ok_bind] at z
    by_cases hb:p.1=true
    ·rw [if_pos hb] at z
     cases q3:fe p.2 with
     | exc c=>rw [q3] at z; cases z
     | bad=>rw [q3] at z; cases z
     | ok r=>
      rw [q3] at z
      simp only [Out.plain,Out.ok_bind] at z
      cases q4:jx g ft fe ds r.2 with
      | exc c=>exact ih _ _ _ q4
      | bad=>rw [q4] at z; cases z
      | ok t=>rw [q4] at z; cases z
    ·rw [if_neg hb] at z
     simp only [Out.ok_bind] at z
     cases q4:jx g ft fe ds p.2 with
     | exc c=>exact ih _ _ _ q4
     | bad=>rw [q4] at z; cases z
     | ok t=>rw [q4] at z; cases z
theorem JU {α:Type} {Z:Out (D×Sl)->Prop} (rp:Rep C.K own F H σ ρ) (hb:¬Z .bad) (hx:∀ c ρ',Z (.exc c ρ')->∀ F' H',Same F' H'->YJ C.K C.ox F' H' σ ρ'->Chg (OA own σ) F H F' H'->C.E (C.cv c) none H') (h:Z (jC own nt cap fi g ft fe ρ)) :
  tIt C own fi σ H fun J H1=>∃ ds ρ1 ys ρe F1,ds.length<=sizeLine/\jx g ft fe ds (kJ nt cap ρ1)=.ok (ys,ρe)/\Rep C.K own F1 H1 σ ρ1/\Chg (OA own σ) F H F1 H1/\ItIs C.K F1 J ds/\Z (.ok (.lst ys,jF own ρe nt cap ρ1)):=by
 refine ⟨F,ρ,rp,?_⟩
 unfold jC at h
 cases q:fi ρ with
 | exc c=>rw [q] at h; exact hx c _ h
 | bad=>rw [q] at h; exact (hb h).elim
 | ok p=>
  obtain ⟨ds,ρ1⟩:=p
  rw [q] at h
  have h:Z (if ds.length<=sizeLine then (jx g ft fe ds (kJ nt cap ρ1)).bind fun q=>.ok (.lst q.1,jF own q.2 nt cap ρ1) else .bad):=h
  by_cases z:ds.length<=sizeLine
  ·rw [if_pos z] at h
   cases q2:jx g ft fe ds (kJ nt cap ρ1) with
   | exc c=>exact absurd q2 (Vl _ _ _ _)
   | bad=>rw [q2] at h; exact (hb h).elim
   | ok p=>
    obtain ⟨ys,ρe⟩:=p
    rw [q2] at h
    exact fun J F1 H1 rp1 c1 it=>⟨ds,ρ1,ys,ρe,F1,z,q2,rp1,c1,it,h⟩
  ·rw [if_neg z] at h; exact (hb h).elim
theorem kn (hcalm:X.calm=true) (S:ScOk X scope) (CO:CapOk X scope N nt cap) (hi:PI X tg iter (tIt C own fi))
  (hg:∀ fp L s' H',PG (jR X scope N fp L s' H') tg (tGd (ctC C nt cap.length) (uQ own nt cap) g)) (ht:∀ fp L s' H',PTs (jR X scope N fp L s' H') ifs (tT (ctC C nt cap.length) (uQ own nt cap) ft))
  (he:∀ fp L s' H',PE (jR X scope N fp L s' H') elt (tE (ctC C nt cap.length) (uQ own nt cap) me fe)) (hme:me≠.any:=by decide) (hs:∀ x,foldedSetIterable iter X.env x=pure x:=by intro _; rfl) :
  PE X (.ListComp elt [⟨tg,iter,ifs,0⟩] scope pos) (tE C own .fr (jC own nt cap fi g ft fe)):=by
 refine ⟨?_⟩
 intro pins s σ H Q I ⟨F,ρ,rp,h⟩
 rw [eval_ListComp]
 have main:=JU (α:=Unit) (Z:=fun r=>Po C own .fr σ F H r Q) rp (fun z=>z) (fun c _ z=>z) h
 refine wpAny_comprehension_free (use:=none) rfl hs (gN (zy I S)) S.kind S.names (thn (hi pins s σ H _ I main) fun xv s1 h1=>thn h1 fun itv s2 h2=>?_)
 obtain ⟨it,fp,tn,J,H2,e,I2,T,st2,f2,ds,ρ1,ys,ρe,F1,hz,hrun,rp1,c1,itI,po⟩:=h2
 subst e
 refine JT (RR:=fun acc C'=>compPost (model X.prog X.w) X.A X.xe none (EP X pins σ Q) acc C') I2 hcalm S CO T st2 f2 rp1 itI hz hg ht he hme hrun fun p L s' F' H' hp rp' c' nF o hns hfp hinv=>?_
 obtain ⟨m,hn⟩:=hns
 refine ⟨m,hn,fun h' sb=>⟨.ref p,H',hinv h' sb,rfl,?_⟩⟩
 refine po (.ref p) F' H' rp' (c1.trans' c') ⟨p,rfl,?_,nF,o⟩
 cases q:H p with
 | none=>rfl
 | some u=>exact absurd hp (c1.stay p (by rw [q]; simp))
theorem yn {pos' spos:Pos} (hN:X.N.Nodup) (hix:X.N[i]?=some x) (hx:Loc X.env.scope x) (hcalm:X.calm=true) (S:ScOk X scope) (CO:CapOk X scope N nt cap) (hi:PI X tg iter (tIt C own fi))
  (hg:∀ fp L s' H',PG (jR X scope N fp L s' H') tg (tGd (ctC C nt cap.length) (uQ own nt cap) g)) (ht:∀ fp L s' H',PTs (jR X scope N fp L s' H') ifs (tT (ctC C nt cap.length) (uQ own nt cap) ft))
  (he:∀ fp L s' H',PE (jR X scope N fp L s' H') elt (tE (ctC C nt cap.length) (uQ own nt cap) me fe)) (hme:me≠.any:=by decide) (hio:i∉C.io:=by exact Wg rfl)
  (hsw:swapsWith (.ListComp elt [⟨tg,iter,ifs,0⟩] scope pos) (some (.Name x pos')) spos.line X.env=pure true:=by rfl) (hs:∀ x,foldedSetIterable iter X.env x=pure x:=by intro _; rfl)
  (hfx:X.fn x=true\/X.env.scope.names.lookup x=some .local:=by first | exact .inl rfl | exact .inr rfl) :
  PS X (.Assign [.Name x pos'] (.ListComp elt [⟨tg,iter,ifs,0⟩] scope pos) spos) (tSt C own (i::wF own [i]) (jE i (jC own nt cap fi g ft fe))):=by
 refine ⟨?_⟩
 intro pins s σ H D I ⟨F,ρ,rp,h⟩
 rw [exec_Assign_Name_used _ _ _ _ hsw]
 refine wpAny_bind (wpAny_standAt (wpAny_bind ?_))
 show wpAny _ X.A (do let _ <-comprehension (.ListComp elt [⟨tg,iter,ifs,0⟩] scope pos) scope X.env _ (newList []) false (eval iter X.env) (some (assign (.Name x pos') X.env))) _ _ s
 have main:=JU (α:=Unit) (Z:=fun r=>PoS C own (i::wF own [i]) σ F H (r.bind fun p=>if i < p.2.length then .ok (.nx,p.2.set i (some p.1)) else .bad) D) rp (fun z=>z) (fun c _ z=>z) h
 refine wpAny_bind (wpAny_mono (wpAny_comprehension_free (use:=some (assign (.Name x pos') X.env)) (Q:=fun _ s'=>SP X pins D .next s') rfl hs (gN (zy I S)) S.kind S.names (thn (hi pins s σ H _ I main) fun xv s1 h1=>thn h1 fun itv s2 h2=>?_)) (fun _ s' hq=>wpAny_pure (wpAny_pure hq)) fun _ _ e=>e)
 obtain ⟨it,fp,tn,J,H2,e,I2,T,st2,f2,ds,ρ1,ys,ρe,F1,hz,hrun,rp1,c1,itI,po⟩:=h2
 subst e
 refine JT (RR:=fun acc C'=>compPost (model X.prog X.w) X.A X.xe (some (assign (.Name x pos') X.env)) (fun _ s'=>SP X pins D .next s') acc C') I2 hcalm S CO T st2 f2 rp1 itI hz hg ht he hme hrun fun p L s' F' H' hp rp' c' nF o hns hfp hinv=>?_
 obtain ⟨m,hn⟩:=hns
 have I3:Inv X pins σ H' s':=by simpa using hinv s'.heap (.refl ..)
 have hH:H p=none:=by
  cases q:H p with
  | none=>rfl
  | some u=>exact absurd hp (c1.stay p (by rw [q]; simp))
 show wpAny _ X.A (assign (.Name x pos') X.env (.ref p)) _ _ s'
 refine wpAny_assign_Name (JC I3 hN hix hx (v:=.ref p) rfl (fun s4 I4 ⟨a,sba,ha⟩=>?_) hfx)
 obtain ⟨f0,f1,f2',f3,f4,f5⟩:=hfp
 have nL:L≠a:=by
  rcases ha with z | z
  ·rw [z]; exact f1
  ·exact fun q=>f4 x a z q.symm
 refine ⟨m,hn.sameBut sba nL,fun h' sb=>?_⟩
 have I5:Inv X pins (σ.set i (some (.ref p))) H' { s4 with heap:=h' }:=by
  have:=I4.turned (h':=h') (t':=s4.toks) (it:=L) (fun b o hb e=>(sb.2 b hb).trans e) f0 f1 f3 f4 f5
  exact this
 refine ⟨_,H',I5,?_⟩
 have po:PoS C own (i::wF own [i]) σ F H (if i < (jF own ρe nt cap ρ1).length then .ok (.nx,(jF own ρe nt cap ρ1).set i (some (.lst ys))) else .bad) D:=po
 by_cases z:i < (jF own ρe nt cap ρ1).length
 ·rw [if_pos z] at po
  refine po _ F' H' ⟨rp'.putO z nF (fun y=>(rp.OA_there y).1 hH) o,c1.trans' c',fun b y=>?_,fun j hj=>aq fun y=>hio (by rw [y]; exact hj)⟩
  obtain ⟨j,hj,e⟩:=y
  by_cases qj:j=i
  ·subst qj
   rw [aE (by rw [rp'.len]; exact z)] at e
   cases e
   exact .inr hH
  ·have hj':=(je j).mp ((ac.mp hj).resolve_left qj)
   rw [aq (aU qj)] at e
   exact .inl ⟨j,hj'.1,e⟩
 ·rw [if_neg z] at po; exact po.elim
end
def Fly (h:Heap) (ex T:Addr) (cls:Value):Prop:=∃ oe vs oT ts,h.get? ex=some oe/\oe.cls=cls/\oe.data=.fields vs/\vs[1]?=some (.ref T)/\T≠ex/\h.get? T=some oT/\oT.data=.fields ts/\ts[3]?=some .none
def CXk (P:Program) (w:World):CXT:=fun outer H s E e s'=>∃ ex T C H',e=.ref ex/\s'.os=s.os/\AllBare s'.gens/\Un (frs outer) [] H H' s.heap s'.heap/\HOk P w H' s'.heap/\Fly s'.heap ex T (.ref C)/\H' ex=none/\H' T=none/\s.heap.get? ex=none/\s.heap.get? T=none/\E (.ref C) none H'
def InB (X:Cx) (H:Hp) (s:Shared) (ex:Addr) (cls:Value):Prop:=H ex=none/\X.s₀.heap.get? ex=none /\
 ((∃ oe vs,s.heap.get? ex=some oe/\oe.cls=cls/\oe.data=.fields vs/\vs[1]?=some .none)\/∃ T,Fly s.heap ex T cls/\H T=none/\X.s₀.heap.get? T=none)
variable {ex:Addr} {T0:Option Addr} {h2:Heap}
section
variable {cls:Value}
theorem InB.dat (h:InB X H s ex cls):∃ oe vs,s.heap.get? ex=some oe/\oe.cls=cls/\oe.data=.fields vs:=by
 rcases h.2.2 with ⟨oe,vs,a,b,c,_⟩ | ⟨T,⟨oe,vs,oT,ts,a,b,c,_⟩,_⟩
 ·exact ⟨oe,vs,a,b,c⟩
 ·exact ⟨oe,vs,a,b,c⟩
noncomputable def yo (ex:Addr) (T:Option Addr) (X:Cx):List Addr:=ex::(T.toList++frs X.stack)
theorem yp (I:Inv X pins σ H s) (hb:b∈frs X.stack):∃ o,s.heap.get? b=some o/\∀ vs,o.data≠.fields vs:=(I.stack.mem hb).2
theorem JV (hs:X.stack=X.env::X.outer):∀ env∈X.stack,∀ b,env.frame=some b->b∈frs X.stack:=fun env he b hb=>eu.mpr ⟨env,he,hb⟩
structure Gone (X:Cx) (H:Hp) (s:Shared) (ex:Addr) (cls:Value) (h2:Heap):Prop where
 keep:∀ b o,s.heap.get? b=some o->H b≠none\/(X.s₀.heap.get? b≠none/\b∉frs X.stack)->h2.get? b=some o
 slot:∀ b o,s.heap.get? b=some o->b∈frs X.stack->∃ sl,h2.get? b=some { o with slots:=sl }
 ok:HOk X.prog X.w H h2
 un:Un (frs X.stack) [] H H s.heap h2\/True
theorem Xf {h2:Heap} (I:Inv X pins σ H s) (hex:H ex=none) (hT:∀ T,T0=some T->H T=none) (n1:X.s₀.heap.get? ex=none) (n2:∀ T,T0=some T->X.s₀.heap.get? T=none)
  (st:(aZ s.heap (yo ex T0 X)).StaysIn h2) (sl:∀ b o,s.heap.get? b=some o->(∀ vs,o.data≠.fields vs)->∃ sl,h2.get? b=some { o with slots:=sl }):Gone X H s ex cls h2:=by
 have keep:∀ b o,s.heap.get? b=some o->b≠ex->(∀ T,T0=some T->b≠T)->b∉frs X.stack->h2.get? b=some o:=fun b o e h1 h2 h3=>st b o (cN _ e fun hm=>by
  rcases ac.mp hm with q | hm
  ·exact h1 q
  ·rcases aj.mp hm with q | q
   ·exact h2 b (Option.mem_toList.mp q) rfl
   ·exact h3 q)
 have k1:∀ b o,s.heap.get? b=some o->H b≠none->h2.get? b=some o:=fun b o e hn=>keep b o e (fun q=>hn (by rw [q]; exact hex)) (fun T hT' q=>hn (by rw [q]; exact hT T hT')) fun q=>hn (I.stkFree b q)
 refine ⟨fun b o e hb=>?_,fun b o e hb=>?_,fun b u e=>?_,.inr trivial⟩
 ·rcases hb with hb | ⟨hb,hf⟩
  ·exact k1 b o e hb
  ·exact keep b o e (fun q=>hb (by rw [q]; exact n1)) (fun T hT' q=>hb (by rw [q]; exact n2 T hT')) hf
 ·obtain ⟨o',e',nf⟩:=yp I hb
  rw [e] at e'; cases e'
  exact sl b o e nf
 ·refine (I.hok b u e).stay (fun c v hc q=>k1 c v q ?_) (fun _ q=>q) fun _ _ q=>q
  rcases hc with z | z
  ·rw [z,e]; simp
  ·rw [z]; simp
theorem JW (I:Inv X pins σ H s) (hT:∀ T,T0=some T->H T=none) (n2:∀ T,T0=some T->X.s₀.heap.get? T=none) (g:Gone X H s ex cls h2) (hex0:X.ex=[])
  (tr:h2.Traced (aZ s.heap (yo ex T0 X)) ex cls):∃ T,Fly h2 ex T cls/\H T=none/\X.s₀.heap.get? T=none:=by
 obtain ⟨oe,vs,T,oT,ts,a1,a2,a3,a4,a5,a6,a7,a8,a9⟩:=tr
 have noS:∀ o,s.heap.get? T=some o->(∃ q,T0=some q/\T=q):=fun o e=>by
  have hm:T∈yo ex T0 X:=by
   refine bE fun hn=>?_
   rw [cN _ e hn] at a5
   cases a5
  rcases ac.mp hm with q | hm
  ·exact absurd q a6
  ·rcases aj.mp hm with q | q
   ·exact ⟨T,Option.mem_toList.mp q,rfl⟩
   ·obtain ⟨o',e',nf⟩:=yp I q
    obtain ⟨sl,e2⟩:=g.slot T o' e' q
    rw [a7] at e2
    cases e2
    exact absurd a8 (nf ts)
 refine ⟨T,⟨oe,vs,oT,ts,a1,a2,a3,a4,a6,a7,a8,a9⟩,?_,?_⟩
 ·cases q:H T with
  | none=>rfl
  | some u=>
   have hlt:=I.hok.lt q
   obtain ⟨o,e⟩:∃ o,s.heap.get? T=some o:=by
    have:=(I.hok T u q)
    have st:=this.stay (H':=H) (h':=s.heap) (fun b v _ z=>z) (fun _ z=>z) fun _ _ z=>z
    cases z:s.heap.get? T with
    | some o=>exact ⟨o,rfl⟩
    | none=>
     exfalso
     cases u with
     | lst xs=>obtain ⟨_,_,_,_,e⟩:=st; rw [z] at e; cases e
     | tup xs=>obtain ⟨_,_,_,_,e,_⟩:=st; rw [z] at e; cases e
     | dK kvs=>obtain ⟨_,_,_,_,o,_,_,e,_⟩:=st; rw [z] at e; cases e
     | dT kvs=>obtain ⟨_,_,_,_,o,_,_,e,_⟩:=st; rw [z] at e; cases e
     | set S n=>obtain ⟨o,_,_,_,e,_⟩:=st; rw [z] at e; cases e
     | ins C dx fs=>obtain ⟨_,_,_,e,_⟩:=st; rw [z] at e; cases e
     | own y=>obtain ⟨_,e⟩:=st; rw [z] at e; cases e
     | xd fs=>obtain ⟨_,⟨_,_,_,e,_⟩,_⟩:=st; rw [z] at e; cases e
     | rng lo hi=>obtain ⟨_,_,_,e⟩:=st; rw [z] at e; cases e
     | frz ob u=>obtain ⟨e,_⟩:=st; rw [z] at e; cases e
     | tbl ps=>have e:s.heap.get? T=some _:=st; rw [z] at e; cases e
     | met f y=>have e:s.heap.get? T=some _:=st; rw [z] at e; cases e
     | ext φ=>obtain ⟨_,⟨_,e⟩,_⟩:=st; rw [z] at e; cases e
   obtain ⟨q',hq',rfl⟩:=noS o e
   rw [hT _ hq'] at q; cases q
 ·cases q:X.s₀.heap.get? T with
  | none=>rfl
  | some o=>
   obtain ⟨o',e'⟩:=I.base.there T o q (by rw [hex0]; simp)
   obtain ⟨q',hq',rfl⟩:=noS o' e'
   rw [n2 _ hq'] at q; cases q
theorem Uy {E:Value->Shared->Prop} {Q:Unit->Shared->Prop} (I:Inv X pins σ H s) (hstk:X.stack=X.env::X.outer) (hfr:X.env.frame=some X.env.locals) (hex0:X.ex=[]) (x:InB X H s ex cls)
  (k:∀ h2 T,Gone X H s ex cls h2->Fly h2 ex T cls->H T=none->X.s₀.heap.get? T=none->Q () { s with heap:=h2 }):wpAny (model X.prog X.w) X.A (leaving X.env (.ref ex)) Q E s:=by
 obtain ⟨hex,n1,hx⟩:=x
 have hF:X.A.frames=some (X.env::X.outer):=by rw [I.ok.frames,hstk]
 have hB:∀ as,(aZ s.heap as).StaysIn s.heap:=fun as b o e=>dF as e
 have hl:∀ T0,s.heap.FunFrames (aZ s.heap (yo ex T0 X)) (X.env::X.outer):=fun T0=>by
  rw [<-hstk]
  exact PySem.W.funFrames_hide I.stack fun env he b hb=>aa _ (aK _ (JV hstk env he b hb))
 have hn:∀ T0,(aZ s.heap (yo ex T0 X)).get? ex=none:=fun T0=>cH _ (ac.mpr (.inl rfl))
 rcases hx with ⟨oe,vs,a1,a2,a3,a4⟩ | ⟨T,⟨oe,vs,oT,ts,a1,a2,a3,a4,a5,a6,a7,a8⟩,hT,n2⟩
 ·refine wpAny_leaving_first (base:=aZ s.heap (yo ex none X)) hF (hl none) hfr a1 (hB _) (hn none) a3 a4 fun h2 ⟨st,_,tr,sl⟩=>?_
  have g:Gone X H s ex cls h2:=Xf I hex (T0:=none) (fun _ z=>nomatch z) n1 (fun _ z=>nomatch z) st sl
  rw [a2] at tr
  obtain ⟨T',f1,f2,f3⟩:=JW I (T0:=none) (fun _ z=>nomatch z) (fun _ z=>nomatch z) g hex0 tr
  exact k h2 T' g f1 f2 f3
 ·have hT':∀ T1,some T=some T1->H T1=none:=fun T1 z=>by cases z; exact hT
  have n2':∀ T1,some T=some T1->X.s₀.heap.get? T1=none:=fun T1 z=>by cases z; exact n2
  have tr0:s.heap.Traced (aZ s.heap (yo ex (some T) X)) ex cls:=⟨oe,vs,T,oT,ts,a1,a2,a3,a4,cH _ (aa _ (bP _ (by simp))),a5,a6,a7,a8⟩
  refine wpAny_leaving_next (base:=aZ s.heap (yo ex (some T) X)) hF (hl (some T)) hfr tr0 (hB _) (hn _) fun h2 ⟨st,_,tr,sl⟩=>?_
  have g:Gone X H s ex cls h2:=Xf I hex hT' n1 n2' st sl
  obtain ⟨T',f1,f2,f3⟩:=JW I hT' n2' g hex0 tr
  exact k h2 T' g f1 f2 f3
end
variable {A:Around} {E:XK} {P:Program} {w:World} {mg:Str->Option Value} {base h:Heap} {qual:Str} {outer:List Env} {s0:Shared}
section
variable {f:Addr} {cd:Value}
abbrev cxk (P:Program) (w:World) (K:Frag) (mg:Str->Option Value) (base:Heap) (N:List Str) (qual:Str) (scope:Scope) (f:Addr) (cd:Value) (A:Around) (outer:List Env) (s0:Shared) (H0:Hp) (E:XK):Cx:=qbY (CXk P w) P w K mg base N qual scope f cd A outer s0 H0 E
theorem qei {C:Addr} (I:Inv (cxk P w K mg base N qual scope f cd A outer s0 H0 E) pins σ H s) (x:InB (cxk P w K mg base N qual scope f cd A outer s0 H0 E) H s ex (.ref C)) (hE:E (.ref C) none H) :
  (cxk P w K mg base N qual scope f cd A outer s0 H0 E).xe (.ref ex) s:=by
 refine Uy I rfl rfl rfl x fun h2 T g fl hT nT=>?_
 have bs0:=I.base
 have neL:∀ b o,s0.heap.get? b=some o->b≠(cxk P w K mg base N qual scope f cd A outer s0 H0 E).env.locals:=fun b o e=>aD (aH (ap e) I.ok.above)
 have nst:∀ b o,s0.heap.get? b=some o->b∉frs outer->b∉frs (cxk P w K mg base N qual scope f cd A outer s0 H0 E).stack:=fun b o e hb z=>by
  rcases ac.mp (I.stkSub b z) with q | q
  ·exact neL b o e q
  ·exact hb q
 have ist:∀ b,b∈frs outer->b∈frs (cxk P w K mg base N qual scope f cd A outer s0 H0 E).stack:=fun b hb=>by
  show b∈frs (_::outer)
  unfold frs
  rw [cx]
  exact aa _ hb
 refine ⟨ex,T,C,H,rfl,I.os,I.bare,⟨fun b o e n hb hx=>?_,fun b o e n hb hx=>?_,bs0.free,fun b o e hx=>?_,bs0.tups,bs0.frzs,bs0.tbls⟩,g.ok,fl,x.1,hT,x.2.1,nT,hE⟩
 ·exact g.keep b o (bs0.keep b o e n hb hx) (.inr ⟨by show s0.heap.get? b≠none; rw [e]; simp,nst b o e hb⟩)
 ·obtain ⟨sl,q⟩:=bs0.slot b o e n hb hx
  obtain ⟨sl2,q2⟩:=g.slot b _ q (ist b hb)
  exact ⟨sl2,q2⟩
 ·obtain ⟨o',q⟩:=bs0.there b o e hx
  by_cases hb:b∈frs (cxk P w K mg base N qual scope f cd A outer s0 H0 E).stack
  ·obtain ⟨sl,q2⟩:=g.slot b o' q hb
   exact ⟨_,q2⟩
  ·exact ⟨o',g.keep b o' q (.inr ⟨by show s0.heap.get? b≠none; rw [e]; simp,hb⟩)⟩
theorem qcj {e:Value} (hex0:X.ex=[]) (I:Inv X pins σ H s) (h:CXk X.prog X.w X.stack H s E e s'):∃ ex C H',e=.ref ex/\Inv X pins σ H' s'/\InB X H' s' ex (.ref C)/\E (.ref C) none H':=by
 obtain ⟨ex,T,C,H',rfl,os,bare,un,hok,fl,e1,e2,n1,n2,hE⟩:=h
 have old:∀ b,s.heap.get? b=none->X.s₀.heap.get? b=none:=fun b hb=>by
  cases q:X.s₀.heap.get? b with
  | none=>rfl
  | some o=>
   obtain ⟨o',e'⟩:=I.base.there b o q (by rw [hex0]; simp)
   rw [hb] at e'; cases e'
 exact ⟨ex,C,H',rfl,I.call' (ch:=[]) os un hok bare (fun b z=>absurd z (by simp)),⟨e1,old ex n1,.inr ⟨T,fl,e2,old T n2⟩⟩,hE⟩
theorem qP:wI (CXk P w) (cxk P w K mg base N qual scope f cd A outer s0 H0 E) E:=fun pins σ H s e s' I h=>by
 obtain ⟨ex,C,H',rfl,I',x,hE⟩:=qcj rfl I h
 exact qei I' x hE
theorem qck {C:Addr} {bmB:List Value} {newId:String} (kin:K.In h) (hm:mg x=some (.ref C)) (q:dB K C bmB newId=true):OwnCls x C bmB newId mg h:=by
 refine ⟨hm,?_⟩
 unfold dB at q
 split at q
 case h_2=>cases q
 case h_1 dd cd sl lk=>
  split at q
  case h_2=>cases q
  case h_1 C' bm a0 a1 a2 a3 n a5 em es=>
   have q':=q
   simp only [aR,beq_iff_eq,Bool.not_eq_true'] at q'
   obtain ⟨⟨⟨⟨⟨e1,e2⟩,nodel⟩,tl⟩,nsok⟩,noinit⟩:=q'
   obtain ⟨nm,bs,mro,ns,qn,hd,sn,sub,ab,col,del⟩:=cd
   dsimp only at em nodel nsok noinit
   obtain ⟨sll⟩:=sl
   dsimp only at es
   subst em nodel es e1 e2
   exact ⟨bm,ns,nm,qn,bs,hd,sn,sub,ab,col,dd,a0,a1,a2,a3,a5,_,kin _ _ lk,.of_isNs (PySem.W.isNs_of_in kin nsok),PySem.W.nsMap_none_of_in kin nsok noinit,PySem.W.tail_of_in kin tl⟩
end
theorem qbf {T:Addr} (hok:HOk P w H h) (q:H T=some u):∃ o,h.get? T=some o:=by
 have st:=hok T u q
 cases z:h.get? T with
 | some o=>exact ⟨o,rfl⟩
 | none=>
  exfalso
  cases u with
  | lst xs=>obtain ⟨_,_,_,_,e⟩:=st; rw [z] at e; cases e
  | tup xs=>obtain ⟨_,_,_,_,e,_⟩:=st; rw [z] at e; cases e
  | dK kvs=>obtain ⟨_,_,_,_,o,_,_,e,_⟩:=st; rw [z] at e; cases e
  | dT kvs=>obtain ⟨_,_,_,_,o,_,_,e,_⟩:=st; rw [z] at e; cases e
  | set S n=>obtain ⟨o,_,_,_,e,_⟩:=st; rw [z] at e; cases e
  | ins C dx fs=>obtain ⟨_,_,_,e,_⟩:=st; rw [z] at e; cases e
  | own y=>obtain ⟨_,e⟩:=st; rw [z] at e; cases e
  | xd fs=>obtain ⟨_,⟨_,_,_,e,_⟩,_⟩:=st; rw [z] at e; cases e
  | rng lo hi=>obtain ⟨_,_,_,e⟩:=st; rw [z] at e; cases e
  | frz ob u=>obtain ⟨e,_⟩:=st; rw [z] at e; cases e
  | tbl ps=>have e:h.get? T=some _:=st; rw [z] at e; cases e
  | met f y=>have e:h.get? T=some _:=st; rw [z] at e; cases e
  | ext φ=>obtain ⟨_,⟨_,e⟩,_⟩:=st; rw [z] at e; cases e
abbrev bmV:List Value:=[.type "ValueError",.type "Exception",.type "BaseException",.type "object"]
noncomputable def wN (x:Str) (fr:Sl->Out (List D×Sl)):Sl->Out (Fl×Sl):=fun ρ=>(fr ρ).bind fun p=>.exc x p.2
theorem PoS.bindA {as:List AK} {o:Out (List D×Sl)} {k:List D×Sl->Out (Fl×Sl)} {D:Ends} {R:List V->Hp->Prop} (hp:PoS C own own' σ F H (o.bind k) D)
  (h:∀ vs F1 H1 ds ρ1,Rep C.K own F1 H1 σ ρ1->Chg (OA own σ) F H F1 H1->ArgV C.K H F1 H1 σ as vs ds->PoS C own own' σ F1 H1 (k (ds,ρ1)) D->R vs H1):PoA C own as σ F H o R:=by
 cases o with
 | ok p=>
  obtain ⟨ds,ρ1⟩:=p
  exact fun vs F1 H1 rp c av=>h vs F1 H1 ds ρ1 rp c av (PoS.shift (show PoS C own own' σ F H (k (ds,ρ1)) D from hp) (.ofE rp c))
 | exc x=>exact hp
 | bad=>exact hp.elim
def Xg (X:Cx) (C:Ct):Prop:=∀ (pins:List (Addr×Obj)) (σ:St) (H:Hp) (s:Shared) (ex A:Addr),Inv X pins σ H s->InB X H s ex (.ref A)->C.E (.ref A) none H->X.xe (.ref ex) s
theorem qej {f:Addr} {cd:Value}:Xg (cxk P w K mg base N qual scope f cd A outer s0 H0 C.E) C:=fun pins σ H s ex A I x hE=>qei I x hE
variable {Cc:Addr} {cpos:Pos}
section
variable {fr:Sl->Out (List D×Sl)} {np:Pos}
theorem ArgV.len:∀ {as:List AK} {vs:List V} {ds:List D},ArgV K H0 F H σ as vs ds->vs.length=as.length
 | [],[],[],_=>rfl
 | .vl::as,v::vs,d::ds,h=>congrArg (·+1) (ArgV.len h.2)
 | .sl i::as,v::vs,d::ds,h=>congrArg (·+1) (ArgV.len h.2.2)
 | .fr::as,v::vs,d::ds,h=>congrArg (·+1) (ArgV.len h.2)
 | [],_::_,_,h=>h.elim
 | [],[],_::_,h=>h.elim
 | .vl::_,[],_,h=>h.elim
 | .vl::_,_::_,[],h=>h.elim
 | .sl _::_,[],_,h=>h.elim
 | .sl _::_,_::_,[],h=>h.elim
 | .fr::_,[],_,h=>h.elim
 | .fr::_,_::_,[],h=>h.elim
theorem wO (hx0:X.ex=[]) (ht:Xg X C) (hcalm:X.calm=true) (hg:Gl X x) (hm:X.mg x=some (.ref Cc)) (hcv:C.cv x=.ref Cc) (q:dB X.K Cc bmV "ValueError.__new__"=true) (ha:PA X (e::es) (tAr C own as fr)) (hsz:as.length<=1000:=by decide) (hio:∀ i∈C.ox,i∈own:=by exact wK rfl) (hd:(x == ("__debug__":Str))=false:=by decide)
  (he:starEach (e::es) X.env=(false,eval e X.env)::starEach es X.env:=by exact jU rfl) (hpl:(backTo cpos (starEach es X.env)).any (·.1)=false:=by rfl) :
  PS X (.Raise (some (.Call (.Name x np) (e::es) [] cpos)) none pos) (tSt C own own' (wN x fr)):=by
 refine ⟨?_⟩
 intro pins s σ H D I ⟨F,ρ,rp,h⟩
 obtain ⟨tl,N,nm,qn,bs,hdct,sn,sub,ab,col,dd,k0,k1,k2,k3,k5,mN,hC,hN,hni,T⟩:=(qck I.ok.mod.kin hm q).obj
 refine wpAny_Raise_call_subT (C:=Cc) (nm:=nm) (q:=qn) (N:=N) (bs:=bs) (bm:=tl) (hdct:=hdct) (sn:=sn) (sub:=sub) (ab:=ab) (col:=col) (dd:=dd) (k0:=k0) (k1:=k1) (k2:=k2) (k3:=k3) (k5:=k5)
  PySem.F.excBase_ValueError (mN:=mN) (T.hasType PySem.F.excBase_ValueError.hasBase) (I.ok.hd hcalm) (by rw [he]; show (false||(backTo cpos (starEach es X.env)).any (·.1))=false; rw [hpl]; rfl) hni (zp I hg hm ⟨rfl,?_⟩ hd)
 have main:tAr C own as fr σ H fun vs H1=>vs.length<=sizeLine/\C.E (.ref Cc) none H1:=by
  refine ⟨F,ρ,rp,PoS.bindA h fun vs F1 H1 ds ρ1 rp1 c1 av h1=>⟨?_,?_⟩⟩
  ·rw [av.len]; exact be hsz (by rw [sizeLine_eq]; decide)
  ·rw [<-hcv]; exact h1 F1 H1 rp1.sub (rp1.ioIs hio) .refl
 have run:=ha cpos pins s σ H _ I main
 rw [he] at run ⊢
 refine d7 (wpAny_mono run (fun us s2 ⟨vs,H2,I2,r2,z2,hE⟩=>?_) fun _ _ y=>y)
 refine ⟨rfl,by rw [<-r2.length]; exact z2,I2.bk _ _ hC,hN.keeps I2.bk,T.keeps I2.bk,fun h' ex mk=>?_⟩
 have I3:Inv X pins σ H2 { s2 with heap:=h' }:=I2.kept (t':=s2.toks) mk.keeps
 obtain ⟨t,h1,h2,h3⟩:=mk.there
 refine ht pins σ H2 _ ex Cc I3 ⟨?_,?_,.inl ⟨_,_,h1,rfl,rfl,rfl⟩⟩ hE
 ·cases q2:H2 ex with
  | none=>rfl
  | some u=>
   have hlt:=I2.hok.lt q2
   refine absurd mk.new ?_
   obtain ⟨o,e⟩:=qbf I2.hok q2
   rw [e]; simp
 ·cases q2:X.s₀.heap.get? ex with
  | none=>rfl
  | some o=>
   obtain ⟨o',e'⟩:=I2.base.there ex o q2 (by rw [hx0]; simp)
   rw [mk.new] at e'; cases e'
end
structure Caught (X:Cx) (pins:List (Addr×Obj)) (H:Hp) (s:Shared) (ex T Cc:Addr):Prop where
 fly:Fly s.heap ex T (.ref Cc)
 hex:H ex=none
 hT:H T=none
 n1:X.s₀.heap.get? ex=none
 n2:X.s₀.heap.get? T=none
 pp:∀ p∈X.pn++pins,p.1≠ex/\p.1≠T
variable {xe:Value->Shared->Prop}
section
variable {T:Addr}
theorem Caught.dex (c:Caught X pins H s ex T Cc):∃ oe vs,s.heap.get? ex=some oe/\oe.data=.fields vs:=let ⟨oe,vs,oT,ts,a1,a2,a3,_⟩:=c.fly; ⟨oe,vs,a1,a3⟩
theorem Caught.dT (c:Caught X pins H s ex T Cc):∃ oe vs,s.heap.get? T=some oe/\oe.data=.fields vs:=let ⟨oe,vs,oT,ts,a1,a2,a3,a4,a5,a6,a7,_⟩:=c.fly; ⟨oT,ts,a6,a7⟩
theorem Wu {h2:Heap} (I:Inv X pins σ H s) (hstk:X.stack=X.env::X.outer) (hfr:X.env.frame=some X.env.locals) (hx0:X.ex=[]) (c:Caught X pins H s ex T Cc)
  (keep:∀ b o,s.heap.get? b=some o->b≠ex->b≠T->b∉frs X.stack->h2.get? b=some o)
  (slot:∀ b o,s.heap.get? b=some o->b∈frs X.stack->∃ sl,h2.get? b=some { o with slots:=sl }):Inv X pins σ H { s with heap:=h2 }:=by
 obtain ⟨oe,ve,he,de⟩:=c.dex
 obtain ⟨oT,vT,hT,dT⟩:=c.dT
 have nf:∀ b o,s.heap.get? b=some o->(∀ vs,o.data≠.fields vs)->b≠ex/\b≠T:=fun b o e n=>by
  constructor
  ·rintro rfl; rw [he] at e; cases e; exact n _ de
  ·rintro rfl; rw [hT] at e; cases e; exact n _ dT
 have Lm:X.env.locals∈frs X.stack:=by
  rw [hstk]; unfold frs; rw [cx,hfr]; exact ai
 have neL:∀ b o,X.s₀.heap.get? b=some o->b≠X.env.locals:=fun b o e=>aD (aH (ap e) I.ok.above)
 have nst:∀ b o,X.s₀.heap.get? b=some o->b∉X.fs->b∉frs X.stack:=fun b o e hb z=>by
  rcases ac.mp (I.stkSub b z) with q | q
  ·exact neL b o e q
  ·exact hb q
 have ist:∀ b,b∈X.fs->b∈frs X.stack:=fun b hb=>by
  rw [hstk]; unfold frs; rw [cx,hfr]; exact aa _ hb
 have ne0:∀ b o,X.s₀.heap.get? b=some o->b≠ex/\b≠T:=fun b o e=>⟨(by rintro rfl; rw [c.n1] at e; cases e),(by rintro rfl; rw [c.n2] at e; cases e)⟩
 have kc:∀ {a:Addr} {v:Option Value},s.heap.IsCell a v->h2.IsCell a v:=fun {a v} ⟨oc,e1,e2⟩=>by
  have q:=nf a oc e1 fun vs z=>by rw [e2] at z; cases z
  by_cases hb:a∈frs X.stack
  ·obtain ⟨sl,z⟩:=slot a oc e1 hb
   exact ⟨_,z,e2⟩
  ·exact ⟨oc,keep a oc e1 q.1 q.2 hb,e2⟩
 refine ⟨I.ok,I.os,I.bare,⟨fun b o e n hb hx=>?_,fun b o e n hb hx=>?_,I.base.free,fun b o e hx=>?_,I.base.tups,I.base.frzs,I.base.tbls⟩,?_,fun x a e=>?_,I.free,I.freeC,fun p hp=>?_,fun b u e=>?_,I.len⟩
 ·exact keep b o (I.base.keep b o e n hb hx) (ne0 b o e).1 (ne0 b o e).2 (nst b o e hb)
 ·obtain ⟨sl,q⟩:=I.base.slot b o e n hb hx
  obtain ⟨sl2,q2⟩:=slot b _ q (ist b hb)
  exact ⟨sl2,q2⟩
 ·obtain ⟨o',q⟩:=I.base.there b o e hx
  by_cases hb:b∈frs X.stack
  ·obtain ⟨sl,z⟩:=slot b o' q hb
   exact ⟨_,z⟩
  ·exact ⟨o',keep b o' q (ne0 b o e).1 (ne0 b o e).2 hb⟩
 ·obtain ⟨m,⟨o,es,ep,ho,r⟩,hl⟩:=I.loc
  obtain ⟨sl,hL⟩:=slot _ o ho Lm
  refine ⟨m,⟨_,es,ep,hL,r⟩,fun i x v e1 e2 e3=>?_⟩
  obtain ⟨u,rv,lk⟩:=hl i x v e1 e2 e3
  refine ⟨u,rv,?_⟩
  rcases lk with z | ⟨k,a,e,z⟩
  ·exact .inl z
  ·exact .inr ⟨k,a,e,kc z⟩
 ·obtain ⟨v,z⟩:=I.cell x a e
  exact ⟨v,kc z⟩
 ·obtain ⟨a1,a2,a3,a4,a5⟩:=I.pin p hp
  refine ⟨keep p.1 p.2 a1 (c.pp p hp).1 (c.pp p hp).2 fun z=>?_,a2,a3,a4,a5⟩
  rcases ac.mp (I.stkSub p.1 z) with q | q
  ·exact a3 q
  ·exact a4 q
 ·refine (I.hok b u e).stay (fun d v hc q=>?_) (fun _ q=>q) fun _ _ q=>q
  have hd:H d≠none:=by
   rcases hc with z | z
   ·rw [z,e]; simp
   ·rw [z]; simp
  exact keep d v q (fun z=>hd (by rw [z]; exact c.hex)) (fun z=>hd (by rw [z]; exact c.hT)) fun z=>hd (I.stkFree d z)
theorem gO {a0:Value} (I:Inv X pins σ H s) (hx0:X.ex=[]) (c:Caught X pins H s ex T Cc) (slot:∀ b o,s.heap.get? b=some o->b∈frs X.stack->∃ sl,h2.get? b=some { o with slots:=sl })
  (tr:h2.TracedW (aZ s.heap (yo ex (some T) X)) ex (.ref Cc) a0):∃ T',Caught X pins H { s with heap:=h2 } ex T' Cc:=by
 obtain ⟨oe,vs,T',oT,ts,b1,⟨b2,_⟩,b3,b4,b5,b6,b7,b8,b9⟩:=tr
 have noS:∀ o,s.heap.get? T'=some o->T'=T:=fun o e=>by
  have hm:T'∈yo ex (some T) X:=by
   refine bE fun hn=>?_
   rw [cN _ e hn] at b5
   cases b5
  rcases ac.mp hm with q | hm
  ·exact absurd q b6
  ·rcases aj.mp hm with q | q
   ·simpa using q
   ·obtain ⟨o',e',nf⟩:=yp I q
    obtain ⟨sl,e2⟩:=slot T' o' e' q
    rw [b7] at e2
    cases e2
    exact absurd b8 (nf ts)
 refine ⟨T',⟨oe,vs,oT,ts,b1,b2,b3,b4,b6,b7,b8,b9⟩,c.hex,?_,c.n1,?_,fun p hp=>⟨(c.pp p hp).1,?_⟩⟩
 ·cases q:H T' with
  | none=>rfl
  | some u=>
   obtain ⟨o,e⟩:=qbf I.hok q
   rw [noS o e,c.hT] at q; cases q
 ·cases q:X.s₀.heap.get? T' with
  | none=>rfl
  | some o=>
   obtain ⟨o',e'⟩:=I.base.there T' o q (by rw [hx0]; simp)
   rw [noS o' e',c.n2] at q; cases q
 ·rintro rfl
  exact (c.pp p hp).2 (noS _ (I.pin p hp).1)
theorem gP (st:(aZ s.heap (yo ex (some T) X)).StaysIn h2):∀ b o,s.heap.get? b=some o->b≠ex->b≠T->b∉frs X.stack->h2.get? b=some o:=fun b o e h1 h2 h3=>st b o (cN _ e fun hm=>by
  rcases ac.mp hm with q | hm
  ·exact h1 q
  ·rcases aj.mp hm with q | q
   ·exact h2 (by simpa using q)
   ·exact h3 q)
theorem JX (c:Caught X pins H s ex T Cc):∃ a0,s.heap.TracedW (aZ s.heap (yo ex (some T) X)) ex (.ref Cc) a0:=by
 obtain ⟨oe,vs,oT,ts,a1,a2,a3,a4,a5,a6,a7,a8⟩:=c.fly
 have hz:0 < vs.size:=Nat.lt_of_succ_lt (Array.getElem?_eq_some_iff.mp a4).1
 exact ⟨vs[0],oe,vs,T,oT,ts,a1,⟨a2,by simp [hz]⟩,a3,a4,cH _ (aa _ (bP _ (by simp))),a5,a6,a7,a8⟩
theorem gQ (I:Inv X pins σ H s) (hstk:X.stack=X.env::X.outer):s.heap.FunFrames (aZ s.heap (yo ex (some T) X)) (X.env::X.outer):=by
 rw [<-hstk]
 exact PySem.W.funFrames_hide I.stack fun env he b hb=>aa _ (aK _ (JV hstk env he b hb))
theorem Xh {E:Value->Shared->Prop} {Q:Unit->Shared->Prop} (hA:A.frames=some X.stack) (I:Inv X pins σ H s) (hstk:X.stack=X.env::X.outer) (hfr:X.env.frame=some X.env.locals) (hx0:X.ex=[]) (c:Caught X pins H s ex T Cc)
  (k:∀ s' T',Inv X pins σ H s'->Caught X pins H s' ex T' Cc->Q () s'):wpAny (model X.prog X.w) A (noteFrame (.ref ex) X.env) (fun _ s1=>wpAny (model X.prog X.w) A (setFlight (.ref ex) none) Q E s1) E s:=by
 obtain ⟨a0,tr⟩:=JX c
 refine wpAny_looks_onW (by rw [hA,hstk]) hfr ⟨fun b o e=>dF _ e,cH _ (ac.mpr (.inl rfl)),gQ I hstk,tr⟩ fun h1 held u1=>?_
 refine wpAny_landsW held fun h2 fl u2=>?_
 have slot:∀ b o,s.heap.get? b=some o->b∈frs X.stack->∃ sl,h2.get? b=some { o with slots:=sl }:=fun b o e hb=>by
  obtain ⟨o',e',nf⟩:=yp I hb
  rw [e] at e'; cases e'
  obtain ⟨sl,q⟩:=u1 b o e nf
  obtain ⟨sl2,q2⟩:=u2 b _ q nf
  exact ⟨sl2,q2⟩
 obtain ⟨T',c'⟩:=gO I hx0 c slot fl.2.2.2
 have I2:Inv X pins σ H { s with heap:=h2 }:=Wu I hstk hfr hx0 c (gP fl.1) slot
 exact k { s with heap:=h2 } T' I2 c'
theorem Vm {A:Around} {E:Value->Shared->Prop} {Q:Unit->Shared->Prop} (I:Inv X pins σ H s) (hstk:X.stack=X.env::X.outer) (hfr:X.env.frame=some X.env.locals) (hx0:X.ex=[]) (c:Caught X pins H s ex T Cc)
  (k:∀ s' T',Inv X pins σ H s'->Caught X pins H s' ex T' Cc->Q () s'):wpAny (model X.prog X.w) A (setFlight (.ref ex) none) Q E s:=by
 obtain ⟨a0,tr⟩:=JX c
 refine wpAny_setFlight_noneW (base:=aZ s.heap (yo ex (some T) X)) (fun b o e=>dF _ e) (gQ I hstk) tr fun h2 st _ tr2 kp=>?_
 have slot:∀ b o,s.heap.get? b=some o->b∈frs X.stack->∃ sl,h2.get? b=some { o with slots:=sl }:=fun b o e hb=>by
  obtain ⟨o',e',nf⟩:=yp I hb
  rw [e] at e'; cases e'
  exact ⟨o.slots,kp b o e nf⟩
 obtain ⟨T',c'⟩:=gO I hx0 c slot tr2
 exact k _ T' (Wu I hstk hfr hx0 c (gP st) slot) c'
theorem qgg (I:Inv X pins σ H s) (c:Caught X pins H s ex T Cc):Inv X pins σ (upd H ex (Vc ex Cc)) s:=by
 obtain ⟨oe,vs,oT,ts,a1,a2,a3,_⟩:=c.fly
 have nf:∀ b o,s.heap.get? b=some o->(∀ vs,o.data≠.fields vs)->b≠ex:=fun b o e n=>by
  rintro rfl; rw [a1] at e; cases e; exact n _ a3
 have up:∀ {b:Addr} {u:HO},H b=some u->upd H ex (Vc ex Cc) b=some u:=fun {b u} e=>by rw [qB (qI e c.hex)]; exact e
 refine ⟨I.ok,I.os,I.bare,⟨I.base.keep,I.base.slot,fun b o e n hx=>?_,I.base.there,fun b xs e=>up (I.base.tups b xs e),fun b o u e=>up (I.base.frzs b o u e),fun b ps e=>?_⟩,I.loc,I.cell,?_,fun x a e=>?_,fun p hp=>?_,fun b u e=>?_,I.len⟩
 ·rw [qB (by rintro rfl; rw [c.n1] at e; cases e)]; exact I.base.free b o e n hx
 ·obtain ⟨more,z⟩:=I.base.tbls b ps e
  exact ⟨more,up z⟩
 ·obtain ⟨m,⟨o,es,ep,ho,hd,_⟩,_⟩:=I.loc
  rw [qB (nf _ o ho fun vs z=>by rw [hd] at z; cases z)]; exact I.free
 ·obtain ⟨v,oc,e1,e2⟩:=I.cell x a e
  rw [qB (nf _ oc e1 fun vs z=>by rw [e2] at z; cases z)]; exact I.freeC x a e
 ·obtain ⟨b1,b2,b3⟩:=I.pin p hp
  refine ⟨b1,?_,b3⟩
  rw [qB (c.pp p hp).1]; exact b2
 ·by_cases q:b=ex
  ·subst q
   rw [qr] at e; cases e
   refine ⟨⟨oe,vs,a1,a2,a3⟩,⟨oe,a1⟩,fun h1 h2 ⟨o1,v1,e1,e2,e3⟩ kk=>⟨o1,v1,kk _ e1,e2,e3⟩⟩
  ·rw [qB q] at e
   exact (I.hok b u e).stay (fun _ _ _ z=>z) (fun d z=>up z) fun d xs z=>up z
def Vn (X:Cx) (pn:List (Addr×Obj)) (xe:Value->Shared->Prop):Cx:={ X with pn:=pn,xe:=xe }
theorem qcl (I:Inv X pins σ H s):Inv (Vn X (X.pn++pins) xe) [] σ H s:=
 ⟨⟨I.ok.mod,I.ok.kind,I.ok.glob,I.ok.blt,I.ok.above,I.ok.inj,I.ok.has,I.ok.cab,I.ok.hd,I.ok.frames,I.ok.stk,I.ok.exf,I.ok.bs,I.ok.bsz,I.ok.noex,I.ok.exfs,I.ok.funs,I.ok.frf⟩,I.os,I.bare,I.base,I.loc,I.cell,I.free,I.freeC,fun p hp=>I.pin p (by simpa [Vn] using hp),I.hok,I.len⟩
theorem wP {pins':List (Addr×Obj)} (I:Inv (Vn X (X.pn++pins) xe) pins' σ H s):Inv X pins σ H s:=
 ⟨⟨I.ok.mod,I.ok.kind,I.ok.glob,I.ok.blt,I.ok.above,I.ok.inj,I.ok.has,I.ok.cab,I.ok.hd,I.ok.frames,I.ok.stk,I.ok.exf,I.ok.bs,I.ok.bsz,I.ok.noex,I.ok.exfs,I.ok.funs,I.ok.frf⟩,I.os,I.bare,I.base,I.loc,I.cell,I.free,I.freeC,fun p hp=>I.pin p (bP _ hp),I.hok,I.len⟩
noncomputable def qfy (X:Cx) (e:Value):Cx:={ X with A:=X.A.mark (some e),calm:=false,xe:=fun _ _=>False }
theorem qbg {e:Value} (I:Inv X pins σ H s):Inv (qfy X e) pins σ H s:=
 ⟨⟨I.ok.mod,I.ok.kind,I.ok.glob,I.ok.blt,I.ok.above,I.ok.inj,I.ok.has,I.ok.cab,fun z=>absurd z (by show ¬(false=true); exact br),I.ok.frames,I.ok.stk,I.ok.exf,I.ok.bs,I.ok.bsz,I.ok.noex,I.ok.exfs,I.ok.funs,I.ok.frf⟩,I.os,I.bare,I.base,I.loc,I.cell,I.free,I.freeC,I.pin,I.hok,I.len⟩
theorem qcm {e:Value} (hok:X.Ok) (I:Inv (qfy X e) pins σ H s):Inv X pins σ H s:=
 ⟨hok,I.os,I.bare,I.base,I.loc,I.cell,I.free,I.freeC,I.pin,I.hok,I.len⟩
theorem Uz {m':Str->Option Value} {t:Nat} (I:Inv X pins σ H s) (hstk:X.stack=X.env::X.outer) (hfr:X.env.frame=some X.env.locals) (hns:h'.Ns X.env.locals m') (sb:bL X.env.locals s.heap h'):Inv X pins (σ.map fun _=>none) H { s with heap:=h',toks:=t }:=by
 have neL:∀ b o,X.s₀.heap.get? b=some o->b≠X.env.locals:=fun b o e=>aD (aH (ap e) I.ok.above)
 obtain ⟨m,⟨oL,es,ep,hoL,hdL,_⟩,_⟩:=id I.loc
 have cL:∀ {a:Addr} {v:Option Value},s.heap.IsCell a v->a≠X.env.locals:=fun {a v} ⟨oc,e1,e2⟩=>by
  rintro rfl; rw [hoL] at e1; cases e1; rw [hdL] at e2; cases e2
 refine ⟨I.ok,I.os,I.bare,⟨fun b o e n hb hx=>(sb.2 b (neL b o e)).trans (I.base.keep b o e n hb hx),fun b o e n hb hx=>?_,I.base.free,fun b o e hx=>?_,I.base.tups,I.base.frzs,I.base.tbls⟩,⟨m',hns,fun i x v e1 e2=>?_⟩,fun x a e=>?_,I.free,I.freeC,fun p hp=>?_,fun b u e=>?_,by simp [I.len]⟩
 ·obtain ⟨sl,q⟩:=I.base.slot b o e n hb hx
  exact ⟨sl,(sb.2 b (neL b o e)).trans q⟩
 ·obtain ⟨o',q⟩:=I.base.there b o e hx
  exact ⟨o',(sb.2 b (neL b o e)).trans q⟩
 ·simp only [aF] at e2
  cases q:σ[i]? <;> rw [q] at e2 <;> cases e2
 ·obtain ⟨v,z⟩:=I.cell x a e
  exact ⟨v,z.sameBut sb (cL z)⟩
 ·obtain ⟨a1,a2,a3,a4⟩:=I.pin p hp
  exact ⟨(sb.2 p.1 a3).trans a1,a2,a3,a4⟩
 ·refine (I.hok b u e).stay (fun d v hc q=>(sb.2 d ?_).trans q) (fun _ q=>q) fun _ _ q=>q
  rintro rfl
  rcases hc with z | z
  ·rw [<-z,I.free] at e; cases e
  ·rw [I.free] at z; cases z
end
def qgh (C:Ct) (own:List Nat) (E:XK):Ct:=⟨C.K,C.cv,E,own,C.mr,C.ol,own,fun _ h=>h⟩
noncomputable def exC (C:Ct):Ct:=⟨C.K,C.cv,fun _ _ _=>False,[],C.mr,[],[],fun _ h=>h⟩
noncomputable def qcn (n:Nat) (j:Option Nat) (hit:Str->Option Addr) (fb fs:Sl->Out (Fl×Sl)):Sl->Out (Fl×Sl):=fun ρ=>match fb ρ with
 | .exc c ρe=>match hit c with
  | some Cc=>match fs (match j with | some j=>(bu n none).set j (some (.xcp Cc)) | none=>bu n none) with
   | .ok (.rt d,_)=>.ok (.rt d,ρe)
   | _=>.bad
  | none=>.bad
 | o=>o
def qgi (C:Ct) (own:List Nat) (σ:St) (F H:Hp) (r:Out (Fl×Sl)):XK:=fun cls _ H'=>∃ c ρe F',r=.exc c ρe/\cls=C.cv c/\Same F' H'/\YJ C.K own F' H' σ ρe/\Chg (OA own σ) F H F' H'
def qgj (X:Cx) (pins:List (Addr×Obj)) (E:XK):Value->Shared->Prop:=fun e s'=>∃ σ ex T Cc H',e=.ref ex/\Inv X pins σ H' s'/\Caught X pins H' s' ex T Cc/\E (.ref Cc) none H'
section
variable {fs:Sl->Out (Fl×Sl)}
theorem UA (hx0:X.ex=[]):wI (CXk X.prog X.w) (Vn X (X.pn++pins) (qgj X pins E)) E:=fun pins' σ H s e s' I h=>by
 obtain ⟨ex,T,Cc,H',rfl,os,bare,un,hok,fl,e1,e2,n1,n2,hE⟩:=h
 have old:∀ b,s.heap.get? b=none->X.s₀.heap.get? b=none:=fun b hb=>by
  cases q:X.s₀.heap.get? b with
  | none=>rfl
  | some o=>
   obtain ⟨o',e'⟩:=I.base.there b o q (by show b∉X.ex; rw [hx0]; simp)
   rw [hb] at e'; cases e'
 have I2:Inv (Vn X (X.pn++pins) (qgj X pins E)) pins' σ H' s':=I.call' (ch:=[]) os un hok bare (fun b z=>absurd z (by simp))
 refine ⟨σ,ex,T,Cc,H',rfl,wP I2,⟨fl,e1,e2,old ex n1,old T n2,fun p hp=>?_⟩,hE⟩
 have q:=(I.pin p (bP _ hp)).1
 exact ⟨fun z=>(by rw [z,n1] at q; cases q),fun z=>(by rw [z,n2] at q; cases q)⟩
theorem Nx.untry {σ':St} {ρ':Sl} (hsub:∀ i∈C.io,i∈own) (n:Nx (qgh C own E) o1 o2 σ F H ρ' σ' F' H'):Nx C o1 o2 σ F H ρ' σ' F' H':=⟨n.rep,n.chg,n.oa,fun i hi=>n.io i (hsub i hi)⟩
theorem GN {D:Ends} {j:Option Nat} {hit:Str->Option Addr} (hsub:∀ i∈C.io,i∈own) (rp:Rep C.K own F H σ ρ) (h:PoS C own own' σ F H (qcn n j hit fb fs ρ) D):tSt (qgh C own (qgi C own σ F H (fb ρ))) own own' fb D σ H:=by
 refine ⟨F,ρ,rp,?_⟩
 unfold qcn at h
 cases q:fb ρ with
 | ok p=>
  rw [q] at h
  obtain ⟨fl,ρ'⟩:=p
  cases fl with
  | nx=>exact fun σ' F' H' nn=>h σ' F' H' (nn.untry hsub)
  | rt d=>exact fun v σ' F' H' s io c e mo=>h v σ' F' H' s (fun i hi=>io i (hsub i hi)) c (fun i hi=>e i (hsub i hi)) mo
  | bk=>exact fun σ' F' H' nn=>h σ' F' H' (nn.untry hsub)
  | ct=>exact fun σ' F' H' nn=>h σ' F' H' (nn.untry hsub)
 | exc c ρe=>exact fun F' H' s io ch=>⟨c,ρe,F',rfl,rfl,s,io,ch⟩
 | bad=>rw [q] at h; exact h.elim
theorem Xi {F3 H3:Hp} {Cc:Addr} {D:Ends} {d:D2.D} {v:V} {σw:St} (hsub:∀ i∈C.io,i∈own) (h:PoS C own own' σ F H (.ok (.rt d,ρe)) D) (hn:H1 ex=none) (sb:Same F1 H1) (io:YJ C.K own F1 H1 σ ρe) (ch:Chg (OA own σ) F H F1 H1)
  (s3:Same F3 H3) (c3:Chg (OA [] σw) (upd F1 ex (Vc ex Cc)) (upd H1 ex (Vc ex Cc)) F3 H3) (mo:MoIs C.K C.mr (upd H1 ex (Vc ex Cc)) F3 H3 v d):D.rt v H3:=by
 obtain ⟨sb2,c2⟩:=yR (u:=Vc ex Cc) sb hn
 have no:∀ {b},OA [] σw b->False:=fun ⟨i,hi,_⟩=>by simp at hi
 have c3':Chg No (upd F1 ex (Vc ex Cc)) (upd H1 ex (Vc ex Cc)) F3 H3:=c3.mono fun x z=>no z
 have c12:Chg No F1 H1 F3 H3:=c2.trans c3' fun _ z=>z.elim
 refine h v σ F3 H3 s3 (fun i hi=>?_) (ch.trans c12 fun _ z=>z.elim) (fun _ _=>rfl) (MoIs.back (Ha:=H3) (ch.trans c2 fun _ z=>z.elim) mo)
 obtain ⟨d',a,e1,e2,e3,e4⟩:=io i (hsub i hi)
 refine ⟨d',a,e1,e2,?_,e4.grow c12.grow fun o q=>c12.keep a o q fun z=>z⟩
 cases q:F3 a with
 | none=>rfl
 | some u=>
  rcases c12.new a (by rw [q]; simp) with z | z | z
  ·exact absurd e3 z
  ·exact absurd z e4.there
  ·exact z.elim
theorem qco {cn en:Str} {np hpos pos:Pos} {body suite:List Stmt} {b0:Stmt} {cls:Value} {n j:Nat} {hit:Str->Option Addr} {own2:List Nat} (hx0:X.ex=[]) (hstk:X.stack=X.env::X.outer) (hfr:X.env.frame=some X.env.locals)
  (hg:Gl X cn) (hm:X.mg cn=some cls) (hhit:∀ c Cc,hit c=some Cc->C.cv c=.ref Cc/\dj X.K (.ref Cc) cls=some true) (hN:X.N.Nodup) (hj:X.N[j]?=some en) (hx:X.env.scope.names.lookup en=some .local) (hn:X.N.length=n)
  (hb:∀ pn xe E,wI (CXk X.prog X.w) (Vn X pn xe) E->PSs (Vn X pn xe) body (tSt (qgh C own E) own own' fb)) (hs:∀ e,PSs (qfy X e) (b0::suite) (tSt (exC C) [] own2 fs)) (hsub:∀ i∈C.io,i∈own:=by exact wK rfl) (hd:(cn == ("__debug__":Str))=false:=by decide) :
  PS X (.Try body [.ExceptHandler (some (.Name cn np)) (some en) (b0::suite) hpos] [] [] pos) (tSt C own own' (qcn n (some j) hit fb fs)):=by
 refine ⟨?_⟩
 intro pins s σ H D I ⟨F,ρ,rp,h⟩
 have run:=hb (X.pn++pins) (qgj X pins (qgi C own σ F H (fb ρ))) (qgi C own σ F H (fb ρ)) (UA hx0) [] s σ H D (qcl I) (GN hsub rp h)
 refine wpAny_Try_except (wpAny_mono run (fun f s1 hf=>?_) fun e s1 he=>?_)
 ·cases f with
  | next=>
   obtain ⟨σ',H',I',q⟩:=hf
   exact Ym pins s1 σ' H' D (wP I') q
  | brk=>obtain ⟨σ',H',I',q⟩:=hf; exact ⟨σ',H',wP I',q⟩
  | cont=>obtain ⟨σ',H',I',q⟩:=hf; exact ⟨σ',H',wP I',q⟩
  | ret u=>obtain ⟨v,σ',H',I',r,q⟩:=hf; exact ⟨v,σ',H',wP I',r,q⟩
 ·obtain ⟨σ1,ex,T,Cc,H1,rfl,I1,c1,c,ρe,F1,hr,hcls,sb1,io1,ch1⟩:=he
  refine Xh I1.ok.frames I1 hstk hfr hx0 c1 fun s2 T2 I2 c2=>?_
  unfold qcn at h
  rw [hr] at h
  cases qh:hit c with
  | none=>simp only [qh] at h; exact h.elim
  | some Ch=>
   simp only [qh] at h
   obtain ⟨hc1,hc2⟩:=hhit c Ch qh
   rw [hc1] at hcls
   obtain rfl:Cc=Ch:=by injection hcls
   refine wpAny_handleBy_cons (codeAny_handlers_test (zp (X:=qfy X (.ref ex)) (qbg I2) hg hm ?_ hd)) (by intro q; cases q)
   obtain ⟨oe,vs,oT,ts,a1,a2,a3,_⟩:=id c2.fly
   have LT:PySem.W.Looks (model X.prog X.w) s2.heap (typeOf (.ref ex)) (.ref Cc):=by rw [<-a2]; exact (PySem.W.Looks.ld a1).andThen .now
   refine (PySem.W.exm_one I2.kIn LT hc2) _ _ _ _ (fun _ _ z=>z) ?_
   refine codeAny_handlers_suite_as (Vm I2 hstk hfr hx0 c2 fun s3 T3 I3 c3=>?_)
   have I4:=qgg I3 c3
   refine Qf I4 hN hj (.inl hx) (v:=.ref ex) rfl (fun s5 I5=>?_) (.inr hx)
   have hjn:j < n:=by rw [<-hn]; exact (aA.mp hj).1
   have I6:Inv X pins ((bu n none).set j (some (.ref ex))) (upd H1 ex (Vc ex Cc)) s5:=I5.weak (by simp [I3.len,hn]) fun i v e=>by
    by_cases qi:i=j
    ·subst qi
     rw [aE (by simpa using hjn)] at e
     rw [aE (by rw [I3.len,hn]; exact hjn)]
     exact e
    ·rw [aq (aU qi),bQ] at e
     split at e <;> cases e
   obtain ⟨sb2,cc2⟩:=yR (u:=Vc ex Cc) sb1 c1.hex
   have rp6:Rep C.K [] (upd F1 ex (Vc ex Cc)) (upd H1 ex (Vc ex Cc)) ((bu n none).set j (some (V.ref ex))) ((bu n none).set j (some (.xcp Cc))):=by
    refine ⟨sb2,by simp,fun i d hi e=>?_,fun i d hi=>by simp at hi,fun i hi=>by simp at hi,fun i j a hi=>by simp at hi⟩
    by_cases qi:i=j
    ·subst qi
     rw [aE (by simpa using hjn)] at e
     cases e
     exact ⟨.ref ex,by rw [aE (by simpa using hjn)],.xcp qr⟩
    ·rw [aq (aU qi),bQ] at e
     split at e <;> cases e
   have main:tSt (exC C) [] own2 fs { nx:=fun _ _=>False,rt:=D.rt } ((bu n none).set j (some (V.ref ex))) (upd H1 ex (Vc ex Cc)):=by
    refine ⟨_,_,rp6,?_⟩
    cases qs:fs ((bu n none).set j (some (.xcp Cc))) with
    | ok p=>
     obtain ⟨fl,ρ5⟩:=p
     rw [qs] at h
     cases fl with
     | rt d=>exact fun v σ' F3 H3 s3 io c3 e mo=>Xi (own':=own') (D:=D) (ex:=ex) (Cc:=Cc) hsub h c1.hex sb1 io1 ch1 s3 c3 mo
     | nx=>exact h.elim
     | bk=>exact h.elim
     | ct=>exact h.elim
    | exc _ _=>rw [qs] at h; exact h.elim
    | bad=>rw [qs] at h; exact h.elim
   refine wpAny_mono (hs (.ref ex) pins s5 _ _ _ (qbg I6) main) (fun f s7 hf=>?_) fun _ _ z=>z.elim
   cases f with
   | next=>obtain ⟨_,_,_,q⟩:=hf; exact q.elim
   | brk=>obtain ⟨_,_,_,q⟩:=hf; exact q.elim
   | cont=>obtain ⟨_,_,_,q⟩:=hf; exact q.elim
   | ret u=>
    obtain ⟨v,σ7,H7,I7,r7,q7⟩:=hf
    have I7':Inv X pins σ7 H7 s7:=qcm I.ok I7
    obtain ⟨m,hns,_⟩:=id I7'.loc
    refine wpAny_nameGoes hx hns (by rw [I.ok.kind]; rfl) fun h' m' hn' sb'=>?_
    exact ⟨v,_,H7,Uz I7' hstk hfr hn' sb',r7,q7⟩
end
structure RoomQ (k:Nat) (A:Around):Prop where
 dp:A.depth+3 * k+5 < recursionLimit
 un:A.units+16 * k+200 < cLine
theorem RoomQ.deeper {k:Nat} (r:RoomQ (k+1) A) (env:Env):RoomQ k (A.deeper env):=
 ⟨by have:=r.dp; show A.depth+1+3 * k+5 < _; omega,by have:=r.un; show A.units+3+16 * k+200 < _; omega⟩
theorem RoomQ.depth {k:Nat} (r:RoomQ k A):A.depth < recursionLimit:=by have:=r.dp; omega
theorem RoomQ.units {k:Nat} (r:RoomQ k A):A.units+64 < cLine:=by have:=r.un; omega
theorem _root_.L2.Room.quiet {k:Nat} (r:Room k A):RoomQ k A:=⟨r.dp,r.un⟩
theorem RoomQ.mark {k:Nat} (r:RoomQ k A) (e:Option Value):RoomQ k (A.mark e):=⟨r.dp,r.un⟩
structure FnQ (P:Program) (w:World) (K:Frag) (mg:Str->Option Value) (base:Heap) (CX:CXT) (k:Nat) (f:Addr) (fd:FuncData) (ps:List Str) (sp:Sp):Prop where
 len:∀ vs H Q E,sp vs H Q E->vs.length=ps.length
 run:∀ (A:Around) (outer:List Env) (s:Shared) (H:Hp) (args:Args) (us:List Value) (vs:List V) (Q:VK) (E:XK),RoomQ k A->Env0 P w K mg base A outer s H->BindsTo s fd args (ps.zip us)->Vals vs us->sp vs H Q E ->
  codeAny (model P w) A (.call (.ref f) args) (CR CX outer P w H s Q E) s
def cxQ (CX:CXT) (P:Program) (w:World) (K:Frag) (mg:Str->Option Value) (base:Heap) (N:List Str) (qual:Str) (scope:Scope) (f:Addr) (cd:Value) (A:Around) (outer:List Env) (s:Shared) (H:Hp) (E:XK):Cx where
 prog:=P
 w:=w
 K:=K
 mg:=mg
 base:=base
 A:=A.deeper (envOfC qual scope s.heap.objs.size f cd)
 N:=N
 s₀:=s
 H₀:=H
 env:=envOfC qual scope s.heap.objs.size f cd
 outer:=outer
 stack:=envOfC qual scope s.heap.objs.size f cd::outer
 ex:=[]
 calm:=false
 fn:=fun _=>true
 pn:=[]
 xe:=fun e s'=>wpAny (model P w) (A.deeper (envOfC qual scope s.heap.objs.size f cd)) (leaving (envOfC qual scope s.heap.objs.size f cd) e) (fun _ s''=>CX outer H s E e s'') (fun e' s''=>CX outer H s E e' s'') s'
theorem UB {CX:CXT} {P:Program} {w:World} {K:Frag} {mg:Str->Option Value} {base:Heap} {N ps:List Str} {qual:Str} {scope:Scope} {f:Addr} {cd:Value} {A:Around} {outer:List Env} {s s1:Shared} {H:Hp} {E:XK} {us:List Value} {vs:List V}
  (S:FnScope N ps scope) (e0:Env0 P w K mg base A outer s H) (hl:vs.length=ps.length) (r:Vals vs us)
  (x:InCallC s s.heap.objs.size (bindL (envOfC qual scope s.heap.objs.size f cd).kindOf (ps.zip us) fun _=>none) (cellsFrom (s.heap.objs.size+1) scope.names []) (bindC (envOfC qual scope s.heap.objs.size f cd).kindOf (ps.zip us) fun _=>none) s1) :
  Inv (cxQ CX P w K mg base N qual scope f cd A outer s H E) [] (vC N vs) H s1:=by
 have hpl:ps.length<=N.length:=by have:=congrArg fm S.pre; rw [eR] at this; omega
 obtain ⟨h1,tk,rfl,hk⟩:=x.done
 have noA:∀ b:Addr,b∉(cxQ CX P w K mg base N qual scope f cd A outer s H E).ex:=fun b z=>absurd (show b∈([]:List Addr) from z) (by simp)
 refine ⟨⟨e0.mod,S.kind,rfl,rfl,aB _,fun y z c h1 h2=>?_,fun y hy=>?_,fun y c _ h=>?_,fun z=>absurd z (by show ¬(false=true); exact br),Around.frames_deeper e0.frames,.inr ⟨rfl,rfl⟩,fun b z=>absurd z (noA b),e0.bs,e0.bsz,fun b _ _=>noA b,fun b z=>absurd z (noA b),e0.funs,e0.frf⟩,
  rfl,e0.bare,Un.kept hk,⟨_,x.toInCall.ns,fun i y v h1 h2 h3=>?_⟩,fun y c h=>⟨_,x.cell y c h⟩,e0.hok.fresh (aB _),fun y c h=>?_,fun p hp=>absurd (show p∈([]:List (Addr×Obj)) from hp) (by simp),e0.hok.kept hk,?_⟩
 ·exact name_of_addr x.apart (bn h1) (bn h2)
 ·have hy:scope.names.lookup y=some .cell\/scope.names.lookup y=some .free:=hy
  rcases hy with hy | hy
  ·exact xS hy
  ·exact absurd rfl (S.nofree _ (bn hy))
 ·exact cU (x.above y c (bn h))
 ·have hi:i < vs.length:=by
   unfold vC at h2
   by_cases hi:i < vs.length
   ·exact hi
   ·rw [bA (by simpa using hi)] at h2
    rw [bQ] at h2
    split at h2 <;> cases h2
  have ha:vs[i]?=some v:=by
   unfold vC at h2
   rw [bY (by simpa using hi),aF] at h2
   cases e:vs[i]? with
   | none=>rw [e] at h2; cases h2
   | some a=>rw [e] at h2; cases h2; rfl
  obtain ⟨u,hu,rv⟩:=r.get ha
  have hp:ps[i]?=some y:=by
   rw [<-S.pre,List.getElem?_take_of_lt (by omega)]; exact h1
  have ndP:ps.Nodup:=by rw [<-S.pre]; exact S.nd.sublist (List.take_sublist _ _)
  refine ⟨u,rv,?_⟩
  rcases S.par y (aP hp) with k | k
  ·exact .inl ⟨k,zq ndP hp hu k⟩
  ·obtain ⟨c,e⟩:=xS (n:=s.heap.objs.size+1) k
   refine .inr ⟨.inl k,c,e,?_⟩
   have q:=x.cell y c e
   rw [zr ndP hp hu (by show scope.names.lookup y≠_; rw [k]; decide)] at q
   exact q
 ·exact e0.hok.fresh (cU (x.above y c (bn h)))
 ·unfold vC
  show _=N.length
  rw [af,ay,c7]
  omega
theorem qek {CX:CXT} {P:Program} {w:World} {K:Frag} {mg:Str->Option Value} {base:Heap} {k:Nat} {f:Addr} {name qual:Str} {params:Arguments} {body:List Stmt} {scope:Scope} {dV kV doc pm cdv ct oc:Value} {an od:Option Addr}
  {osl:Array (Option Value)} {N ps:List Str} {sp:Sp} (lk:K.lookup f=some ⟨oc,od,.func (cg name qual params body scope dV kV doc pm an cdv ct),osl⟩) (hcd:codeIn K cdv qual=true) (S:FnScope N ps scope)
  (len:∀ vs H Q E,sp vs H Q E->vs.length=ps.length)
  (hbody:∀ (A:Around) (outer:List Env) (s:Shared) (H:Hp) (vs:List V) (Q:VK) (E:XK),RoomQ k (A.deeper (envOfC qual scope s.heap.objs.size f cdv))->sp vs H Q E ->
   ∃ t,PSs (cxQ CX P w K mg base N qual scope f cdv A outer s H E) body t/\t { nx:=fun _ H'=>Q .non H',rt:=Q } (vC N vs) H) :
  FnQ P w K mg base CX (k+1) f (cg name qual params body scope dV kV doc pm an cdv ct) ps sp:=by
 refine ⟨len,fun A outer s H args us vs Q E hr e0 hb r hsp=>?_⟩
 have hl:=len _ _ _ _ hsp
 have KX:K.In s.heap:=e0.mod.kin.keeps fun b o e=>(e0.bs b o e).1
 have lim:s.heap.NoLimit:=e0.mod.nolimit.keeps fun b o e=>(e0.bs b o e).1
 have hkind:∀ y∈ps.zip us,scope.names.lookup y.1=some .local\/(scope.names.lookup y.1=some .cell/\((cellsFrom (s.heap.objs.size+1) scope.names []).lookup y.1).isSome=true):=fun ⟨n,v⟩ hy=>by
  rcases S.par n (d9 hy).1 with q | q
  ·exact .inl q
  ·exact .inr ⟨q,dS _ _ _ (.inl q)⟩
 refine codeAny_call_function hr.depth (KX _ _ lk) rfl S.co S.gen rfl (PySem.W.codeRec_of KX hcd) (hb _ _ _ _ ?_)
 refine wpAny_newFunctionEnv_cells S.kind hkind fun env he s1 x=>?_
 subst he
 refine ⟨lim.keeps x.toInCall.keep,codeAny_func ?_⟩
 obtain ⟨t,ht,hq⟩:=hbody A outer s H vs Q E (hr.deeper _) hsp
 have I:Inv (cxQ CX P w K mg base N qual scope f cdv A outer s H E) [] (vC N vs) H s1:=UB S e0 hl r x
 refine wpAny_mono (ht [] s1 (vC N vs) H _ I hq) (fun fl s' hs=>?_) fun e s' hs=>hs
 have fin:∀ {σ':St} {H':Hp} {v:V} {u:Value},Inv (cxQ CX P w K mg base N qual scope f cdv A outer s H E) [] σ' H' s'->RelV v u->Q v H'->CE outer P w H s Q u s':=
  fun {σ' H' v u} J rv q=>⟨v,H',J.os,J.bare,J.base,J.hok,rv,q⟩
 cases fl with
 | ret u=>
  obtain ⟨v,σ',H',J,rv,q⟩:=hs
  exact fin J rv q
 | next=>
  obtain ⟨σ',H',J,q⟩:=hs
  exact fin (v:=V.non) (u:=cz) J rfl q
 | brk=>
  obtain ⟨_,_,_,q⟩:=hs
  exact cc q
 | cont=>
  obtain ⟨_,_,_,q⟩:=hs
  exact cc q
theorem qgk {P:Program} {w:World} {K:Frag} {mg:Str->Option Value} {base:Heap} {CX:CXT} {x qual:Str} {st:Stmt} {f:Addr} {fd:FuncData} {N ps:List Str} {k:Nat} {cv:Str->Value} {ms:List PM} {mr:Mo} {own':List Nat} {fb:Sl->Out (Fl×Sl)} {G:List D->Out (D×List D)}
  (F:Fun K x qual st f fd) (S:FnScope N ps (qf st)) (hl:ms.length=ps.length) (hsub:∀ i∈Vj 0 ms,i∈own') (hmr:mr=.sh\/∀ ds ρ,(fb (qy N ds))≠.ok (.nx,ρ))
  (hbody:∀ (cdv:Value) (A:Around) (outer:List Env) (s:Shared) (H:Hp) (E:XK),RoomQ k (A.deeper (envOfC qual (qf st) s.heap.objs.size f cdv)) ->
   PSs (cxQ CX P w K mg base N qual (qf st) f cdv A outer s H E) (kU st) (tSt (qdq K cv E ms mr) (jV 0 ms) own' fb))
  (hG:∀ ds,Out.le (G ds) (km N ms fb ds)):FnQ P w K mg base CX (k+1) f fd ps (spD K cv ms mr G):=by
 obtain ⟨oc,od,kV,doc,pm,an,cdv,ct,osl,rfl,lk,hcd⟩:=F.ex
 refine qek lk hcd S (fun vs H Q E h=>?_) fun A outer s H vs Q E hr hsp=>?_
 ·obtain ⟨F,ds,_,ar,_⟩:=h
  rw [ar.length.1,hl]
 ·obtain ⟨F1,ds,sb,ar,nd,h⟩:=hsp
  refine ⟨_,hbody cdv A outer s H E hr,?_⟩
  exact YZ (C:=qdq K cv E ms mr) rfl rfl (hmr.imp id fun z ρ=>z ds ρ) hsub sb ar nd (hG ds) h
section
variable {fr:Sl->Out (List D×Sl)}
theorem qcp {k:Nat} {f:Addr} {sp:Sp} {pins:List (Addr×Obj)} {σ:St} {H:Hp} {s:Shared} {Q:VK} {us:List Value} {vs:List V} (F:FnQ X.prog X.w X.K X.mg X.base CX k f fd ps sp) (hr:RoomQ k X.A) (hb:Binds X.K fd ps []) (hx:wI CX X E)
  (I:Inv X pins σ H s) (r:Vals vs us) (h:sp (vs++[]) H Q E):wpAny (model X.prog X.w) X.A (call (.ref f) us) (EP X pins σ Q) X.xe s:=by
 have r2:Vals (vs++[]) (us++[]):=r.append .nil
 have hl:(us++[]).length=ps.length:=by rw [<-r2.length]; exact F.len _ _ _ _ h
 refine wpAny_call (codeAny_mono (F.run X.A X.stack s H ⟨us,[]⟩ (us++[]) (vs++[]) Q E hr I.env0 (hb s us I.kIn hl) r2 h) fun r s' hq=>?_)
 cases r with
 | error e=>exact hx pins σ H s e s' I hq
 | ok fl=>
  cases fl with
  | ret u=>exact I.after hq
  | next=>exact cc hq
  | brk=>exact cc hq
  | cont=>exact cc hq
theorem GO {k:Nat} {f:Addr} {p pos:Pos} (F:FnQ X.prog X.w X.K X.mg X.base CX k f fd ps (spD C.K C.cv ms mr G)) (hr:RoomQ k X.A) (hg:Gl X x) (hm:X.mg x=some (.ref f)) (hk:keepIn X.K (.ref f)=true) (hb:Binds X.K fd ps []) (hx:wI CX X C.E)
  (ha:PA X (e::es) (tAr C own as fr)) (hms:ms=as.map Ql:=by rfl) (hs:∀ i∈jh as,i∈own:=by decide) (nd:(jh as).Nodup:=by decide) (hf:frA as<=1:=by decide) (hio:∀ i∈C.ox,i∈own:=by exact wK rfl) (hdb:(x == ("__debug__":Str))=false:=by decide) (he:starEach (e::es) X.env=(false,eval e X.env)::starEach es X.env:=by exact jU rfl)
  (hpl:(backTo pos (starEach es X.env)).any (·.1)=false:=by exact yf rfl):PE X (.Call (.Name x p) (e::es) [] pos) (tE C own mr (qv as G fr)):=by
 subst hms
 refine ⟨?_⟩
 intro pins s σ H Q I h
 refine wpAny_Call_Name_kw (zp I hg hm ?_ hdb)
 refine PySem.W.callWith_K (h₀:=X.base) I.ok.mod.kin hk (thn (ha pos pins s σ H _ I (Xa hio hs nd hf h)) fun us s1 ⟨vs,H1,I1,r,q⟩=>⟨I1.kIn,?_⟩) he hpl
 exact qcp F hr hb hx I1 r q
end
def DefOk (P:Program) (w:World) (K:Frag) (mg:Str->Option Value) (base:Heap) (cv:Str->Value) (k:Nat) (x:Str) (ps:List Str) (ms:List PM) (mr:Mo) (G:List D->Out (D×List D)):Prop:=
 ∃ f fd,FnOk P w K mg base (CXk P w) k f fd ps (spD K cv ms mr G)/\mg x=some (.ref f)/\keepIn K (.ref f)=true/\Binds K fd ps []
def qgl (P:Program) (w:World) (K:Frag) (mg:Str->Option Value) (base:Heap) (cv:Str->Value) (k:Nat) (x:Str) (ps:List Str) (ms:List PM) (mr:Mo) (G:List D->Out (D×List D)):Prop:=
 ∃ f fd,FnQ P w K mg base (CXk P w) k f fd ps (spD K cv ms mr G)/\mg x=some (.ref f)/\keepIn K (.ref f)=true/\Binds K fd ps []
def jf (K:Frag) (mg:Str->Option Value) (x:Str) (st:Stmt) (ps:List Str):Prop:=∃ f fd,Fun K x x st f fd/\mg x=some (.ref f)/\Binds K fd ps []
theorem qL {P:Program} {w:World} {base:Heap} {cv:Str->Value} {k:Nat} {ms:List PM} {mr:Mo} {own':List Nat} {fb:Sl->Out (Fl×Sl)} (T:jf K mg x st ps) (S:FnScope N ps (qf st))
  (hbody:∀ (cdv:Value) (f:Addr) (A:Around) (outer:List Env) (s:Shared) (H:Hp) (E:XK),Room k (A.deeper (envOfC x (qf st) s.heap.objs.size f cdv)) ->
   PSs (cxk P w K mg base N x (qf st) f cdv A outer s H E) (kU st) (tSt (qdq K cv E ms mr) (jV 0 ms) own' fb))
  (hl:ms.length=ps.length:=by rfl) (hsub:∀ i∈Vj 0 ms,i∈own':=by exact wK rfl) (hmr:mr=.sh\/∀ ds ρ,(fb (qy N ds))≠.ok (.nx,ρ):=by exact .inl rfl):DefOk P w K mg base cv (k+1) x ps ms mr (km N ms fb):=by
 obtain ⟨f,fd,F,hm,hb⟩:=T
 exact ⟨f,fd,qg2 F S hl hsub hmr (fun cdv A outer s H E hr=>hbody cdv f A outer s H E hr) fun _=>.inr rfl,hm,F.kp,hb⟩
theorem qgm {P:Program} {w:World} {base:Heap} {cv:Str->Value} {k:Nat} {ms:List PM} {mr:Mo} {own':List Nat} {fb:Sl->Out (Fl×Sl)} (T:jf K mg x st ps) (S:FnScope N ps (qf st))
  (hbody:∀ (cdv:Value) (f:Addr) (A:Around) (outer:List Env) (s:Shared) (H:Hp) (E:XK),RoomQ k (A.deeper (envOfC x (qf st) s.heap.objs.size f cdv)) ->
   PSs (cxQ (CXk P w) P w K mg base N x (qf st) f cdv A outer s H E) (kU st) (tSt (qdq K cv E ms mr) (jV 0 ms) own' fb))
  (hl:ms.length=ps.length:=by rfl) (hsub:∀ i∈Vj 0 ms,i∈own':=by exact wK rfl) (hmr:mr=.sh\/∀ ds ρ,(fb (qy N ds))≠.ok (.nx,ρ):=by exact .inl rfl):qgl P w K mg base cv (k+1) x ps ms mr (km N ms fb):=by
 obtain ⟨f,fd,F,hm,hb⟩:=T
 exact ⟨f,fd,qgk F S hl hsub hmr (fun cdv A outer s H E hr=>hbody cdv f A outer s H E hr) fun _=>.inr rfl,hm,F.kp,hb⟩
variable {cv:Str->Value}
theorem DefOk.by {k:Nat} {G':List D->Out (D×List D)} (h:DefOk P w K mg base cv k x ps ms mr G) (e:∀ ds,Out.le (G' ds) (G ds)):DefOk P w K mg base cv k x ps ms mr G':=by
 obtain ⟨f,fd,F,r⟩:=h
 refine ⟨f,fd,F.imp fun vs H Q E ⟨F1,ds,sb,ar,nd,po⟩=>⟨F1,ds,sb,ar,nd,?_⟩,r⟩
 rcases e ds with z | z
 ·rw [z] at po; exact po.elim
 ·rw [<-z]; exact po
section
variable {fr:Sl->Out (List D×Sl)} {p:Pos} {k j:Nat}
theorem qm (F:DefOk X.prog X.w X.K X.mg X.base cv j x ps ms mr G) (hr:Room k X.A) (hj:j<=k) (hx:wI (CXk X.prog X.w) X C.E) (hg:Gl X x) (ha:PA X (e::es) (tAr C own as fr)) (hcv:C.cv=cv:=by rfl) (hK:C.K=X.K:=by rfl) (hms:ms=as.map Ql:=by rfl) (hs:∀ i∈jh as,i∈own:=by decide) (nd:(jh as).Nodup:=by decide) (hf:frA as<=1:=by decide) (hio:∀ i∈C.ox,i∈own:=by exact wK rfl)
  (hdb:(x == ("__debug__":Str))=false:=by decide) (he:starEach (e::es) X.env=(false,eval e X.env)::starEach es X.env:=by exact jU rfl) (hpl:(backTo pos (starEach es X.env)).any (·.1)=false:=by exact yf rfl):PE X (.Call (.Name x p) (e::es) [] pos) (tE C own mr (qv as G fr)):=by
 subst hcv
 obtain ⟨f,fd,F,hm,hk,hb⟩:=F
 rw [<-hK] at F
 exact qcf (by rw [<-hK]; exact F) (hr.mono hj) hg hm hk hb hx ha hms hs nd hf hio hdb he hpl
theorem Xj (F:qgl X.prog X.w X.K X.mg X.base cv j x ps ms mr G) (hr:RoomQ j X.A) (hx:wI (CXk X.prog X.w) X C.E) (hg:Gl X x) (ha:PA X (e::es) (tAr C own as fr)) (hcv:C.cv=cv:=by rfl) (hK:C.K=X.K:=by rfl) (hms:ms=as.map Ql:=by rfl) (hs:∀ i∈jh as,i∈own:=by decide) (nd:(jh as).Nodup:=by decide) (hf:frA as<=1:=by decide) (hio:∀ i∈C.ox,i∈own:=by exact wK rfl)
  (hdb:(x == ("__debug__":Str))=false:=by decide) (he:starEach (e::es) X.env=(false,eval e X.env)::starEach es X.env:=by exact jU rfl) (hpl:(backTo pos (starEach es X.env)).any (·.1)=false:=by exact yf rfl):PE X (.Call (.Name x p) (e::es) [] pos) (tE C own mr (qv as G fr)):=by
 subst hcv
 obtain ⟨f,fd,F,hm,hk,hb⟩:=F
 rw [<-hK] at F
 exact GO (by rw [<-hK]; exact F) hr hg hm hk hb hx ha hms hs nd hf hio hdb he hpl
noncomputable def qcq:D->Out D
 | .int i=>.ok (.int (-i))
 | _=>.bad
theorem Wv:UnD X C .sh (unaryOp .USub) qcq:=by
 intro pins s σ H x v Q I rx h
 obtain ⟨F,dx,sb,tx,po⟩:=h
 cases dx <;> try exact po.elim
 obtain rfl:=tx.int
 exact qdP pins s σ H _ v Q I rx ⟨_,rfl,po _ F H sb .refl (.int _)⟩
end
noncomputable def wQ:Option (Option D)->Bool
 | some (some (.lst _))=>true
 | _=>false
noncomputable def zz (i:Nat) (g:List D->D->Out (List D)) (fe:Sl->Out (D×Sl)):Sl->Out (D×Sl):=fun ρ=>if wQ ρ[i]?=true then (fe ρ).bind fun p=>match p.2[i]? with
 | some (some (.lst xs))=>match g xs p.1 with
  | .ok ys=>.ok (.non,p.2.set i (some (.lst ys)))
  | _=>.bad
 | _=>.bad
 else .bad
noncomputable def Qq (xs:List D) (d:D):Out (List D):=if xs.length < sizeLine then .ok (xs++[d]) else .bad
noncomputable def Xk (xs:List D):D->Out (List D)
 | .lst ys=>if xs.length+ys.length<=sizeLine then .ok (xs++ys) else .bad
 | .tup ys=>if xs.length+ys.length<=sizeLine then .ok (xs++ys) else .bad
 | _=>.bad
section
theorem Rep.write (rp:Rep K own F H σ ρ) (hi:i∈own) (ha:σ[i]?=some (some (V.ref a))) (ow:OwnIs K F (upd H a u) a d) :
  Rep K own F (upd H a u) σ (ρ.set i (some d))/\Chg (OA own σ) F H F (upd H a u):=by
 obtain ⟨d0,hd0⟩:=rp.opn i hi
 obtain ⟨a',e1,hF,o0⟩:=rp.ow i d0 hi hd0
 rw [ha] at e1; cases e1
 have hl:i < ρ.length:=(aA.mp hd0).1
 refine ⟨⟨fun b o e=>by rw [qB (qI e hF)]; exact rp.sub b o e,by simp [rp.len],fun j d' hj e=>?_,fun j d' hj e=>?_,fun j hj=>?_,rp.dis⟩,⟨fun b o e n=>?_,fun b e=>?_,Same.refl _,fun b e=>.inl e⟩⟩
 ·rw [aq (fun z=>hj (by rw [<-z]; exact hi))] at e
  exact rp.val j d' hj e
 ·by_cases q:j=i
  ·subst q
   rw [aE hl] at e
   cases e
   exact ⟨a,ha,hF,ow⟩
  ·rw [aq (aU q)] at e
   obtain ⟨b,h1,h2,h3⟩:=rp.ow j d' hj e
   have nb:b≠a:=fun z=>by subst z; exact q (rp.dis j i b hj hi h1 ha)
   exact ⟨b,h1,h2,h3.grow (Same.refl _) fun o z=>by rw [qB nb]; exact z⟩
 ·by_cases q:j=i
  ·subst q; exact ⟨d,aE hl⟩
  ·rw [aq (aU q)]; exact rp.opn j hj
 ·have nb:b≠a:=fun z=>n (by rw [z]; exact ⟨i,hi,ha⟩)
  rw [qB nb]; exact e
 ·by_cases q:b=a
  ·rw [q,qr]; simp
  ·rw [qB q]; exact e
theorem Ww {o:Option (Option D)} (h:wQ o=true):∃ xs,o=some (some (.lst xs)):=by
 unfold wQ at h
 split at h
 ·exact ⟨_,rfl⟩
 ·cases h
theorem GP {g:List D->D->Out (List D)} {R:V->V->Hp->VK->Prop} {σ:St} {H:Hp} {Q:VK} (ho:i∈own) (hm:m≠.any)
  (hR:∀ (a:Addr) (xs:List V) (ds ys:List D) (v:V) (d:D) (F H:Hp),Same F H->H a=some (.lst xs)->F a=none->IsL C.K F xs ds->Is C.K F v d->g ds d=.ok ys->(∀ zs,IsL C.K F zs ys->Q .non (upd H a (.lst zs)))->R (.ref a) v H Q)
  (h:tE C own .sh (zz i g fe) σ H Q):∃ a xs,σ[i]?=some (some (V.ref a))/\H a=some (.lst xs)/\tE C own .sh fe σ H fun v H1=>R (.ref a) v H1 Q:=by
 obtain ⟨F,ρ,rp,h⟩:=h
 unfold zz at h
 by_cases q:wQ ρ[i]?=true
 ·rw [if_pos q] at h
  obtain ⟨ds,hd⟩:=Ww q
  obtain ⟨a,h1,h2,xs,h3,h4⟩:=rp.ow i _ ho hd
  refine ⟨a,xs,h1,h3,F,ρ,rp,Po.bind h fun v F1 H1 d ρ1 rp1 c1 mo1 po=>?_⟩
  cases q1:ρ1[i]? with
  | none=>simp only [q1] at po; exact po.elim
  | some o=>
   cases o with
   | none=>simp only [q1] at po; exact po.elim
   | some dd=>
    simp only [q1] at po
    cases dd with
    | lst es=>
     simp only at po
     cases q2:g es d with
     | ok ys=>
      simp only [q2] at po
      obtain ⟨a',e1,e2,vs,e3,e4⟩:=rp1.ow i _ ho q1
      rw [h1] at e1; cases e1
      refine hR a vs es ys v d F1 H1 rp1.sub e3 e2 e4 mo1 q2 fun zs iz=>?_
      obtain ⟨r2,c2⟩:=rp1.write (u:=.lst zs) (d:=.lst ys) ho h1 ⟨zs,qr,iz⟩
      exact po .non F1 _ r2 c2 .non
     | exc c o=>simp only [q2] at po; exact po.elim
     | bad=>simp only [q2] at po; exact po.elim
    | _=>exact po.elim
 ·rw [if_neg q] at h; exact h.elim
theorem vH {px apos cpos:Pos} (hK:C.K=X.K) (hN:X.N[i]?=some x) (hv:Vis X.env.scope x) (ho:i∈own) (he:PE X e (tE C own m fe)) (hm:m≠.any:=by decide)
  (hd:(x == ("__debug__":Str))=false:=by decide) (hcd:(x == ("__classdict__":Str))=false:=by decide)
  (hbase:attributeBase (.Name x px) "append" X.env (eval (.Name x px) X.env)=eval (.Name x px) X.env:=by rfl)
  (hfew:((backTo cpos (starEach [e] X.env)).all (fun x=>!x.1)&&(backToKw cpos (keywordEach [] X.env)).all (fun x=>x.1.isSome)
   && decide ([e].length+([]:List Keyword).length+(if ([]:List Keyword).isEmpty then 0 else 1) < 30))=true:=by exact vU rfl)
  (hline:(apos.endLine == cpos.line)=true:=by rfl) (hs:starEach [e] X.env=[(false,eval e X.env)]:=by exact qV rfl) :
  PE X (.Call (.Attribute (.Name x px) "append" apos) [e] [] cpos) (tE C own .sh (zz i Qq fe)):=by
 refine jG (Us ck PySem.F.slot_list_append PySem.F.type_list_append JH (uD hN hv hd hcd) (qS (uM he hm) jz hs) hbase hfew hline hs rfl) fun σ H Q h=>?_
 have hR:∀ (a:Addr) (xs:List V) (ds ys:List D) (v:V) (d:D) (F H:Hp),Same F H->H a=some (.lst xs)->F a=none->IsL C.K F xs ds->Is C.K F v d->Qq ds d=.ok ys->(∀ zs,IsL C.K F zs ys->Q .non (upd H a (.lst zs)))->KZ (.ref a) [v] H Q:=fun a xs ds ys v d F H sb ea ef ix iv eg k=>by
  unfold Qq at eg
  split at eg
  ·cases eg
   exact ⟨a,xs,v,rfl,rfl,ea,by rw [ix.length]; assumption,k _ (ix.append (.cons iv .nil))⟩
  ·cases eg
 obtain ⟨a,xs,h1,h2,k⟩:=GP (R:=fun x v H Q=>KZ x [v] H Q) ho hm hR h
 exact ⟨.ref a,h1,.inl ⟨rfl,xs,.inl (.inl h2)⟩,k⟩
theorem yq {px apos cpos:Pos} (hN:X.N[i]?=some x) (hv:Vis X.env.scope x) (ho:i∈own) (he:PE X e (tE C own .fr fe))
  (hd:(x == ("__debug__":Str))=false:=by decide) (hcd:(x == ("__classdict__":Str))=false:=by decide)
  (hbase:attributeBase (.Name x px) "extend" X.env (eval (.Name x px) X.env)=eval (.Name x px) X.env:=by rfl)
  (hfew:((backTo cpos (starEach [e] X.env)).all (fun x=>!x.1)&&(backToKw cpos (keywordEach [] X.env)).all (fun x=>x.1.isSome)
   && decide ([e].length+([]:List Keyword).length+(if ([]:List Keyword).isEmpty then 0 else 1) < 30))=true:=by exact vU rfl)
  (hline:(apos.endLine == cpos.line)=true:=by rfl) (hs:starEach [e] X.env=[(false,eval e X.env)]:=by exact qV rfl) :
  PE X (.Call (.Attribute (.Name x px) "extend" apos) [e] [] cpos) (tE C own .sh (zz i Xk fe)):=by
 refine jG (Us ck PySem.F.slot_list_extend PySem.F.type_list_extend Yz (uD hN hv hd hcd) (qS he jz hs) hbase hfew hline hs rfl) fun σ H Q ⟨F,ρ,rp,h⟩=>?_
 unfold zz at h
 by_cases q:wQ ρ[i]?=true
 ·rw [if_pos q] at h
  obtain ⟨ds,hd⟩:=Ww q
  obtain ⟨a,h1,h2,xs,h3,h4⟩:=rp.ow i _ ho hd
  refine ⟨.ref a,h1,.inl ⟨rfl,xs,.inl (.inl h3)⟩,F,ρ,rp,Po.bind h fun v F1 H1 d ρ1 rp1 c1 mo1 po=>?_⟩
  obtain ⟨b,rfl,hb0,hbF,ob⟩:=mo1
  cases q1:ρ1[i]? with
  | none=>simp only [q1] at po; exact po.elim
  | some o=>
   cases o with
   | none=>simp only [q1] at po; exact po.elim
   | some dd=>
    simp only [q1] at po
    cases dd with
    | lst es=>
     simp only at po
     obtain ⟨a',e1,e2,vs,e3,e4⟩:=rp1.ow i _ ho q1
     rw [h1] at e1; cases e1
     cases d with
     | lst ys=>
      obtain ⟨zs,hz,iz⟩:=ob
      have po:Po C own .sh σ F1 H1 (match (if es.length+ys.length<=sizeLine then .ok (es++ys) else .bad:Out (List D)) with | .ok ys=>.ok (.non,ρ1.set i (some (.lst ys))) | _=>.bad) Q:=po
      by_cases qz:es.length+ys.length<=sizeLine
      ·rw [if_pos qz] at po
       refine ⟨a,b,vs,zs,rfl,rfl,e3,hz,by rw [e4.length,iz.length]; exact qz,?_⟩
       obtain ⟨r2,c2⟩:=rp1.write (u:=.lst (vs++zs)) (d:=.lst (es++ys)) ho h1 ⟨_,qr,e4.append iz⟩
       exact po .non F1 _ r2 c2 .non
      ·rw [if_neg qz] at po; exact po.elim
     | dct ys=>
      exact po.elim
     | ins _ _=>exact po.elim
     | at_ _ _=>exact po.elim
     | _=>exact ob.elim
    | _=>exact po.elim
 ·rw [if_neg q] at h; exact h.elim
end
noncomputable def scB (names:List (Str×NameKind)) (scope:Scope):Bool:=decide (scope.kind=.function)&&scope.names.all fun y=>decide (y.2≠.cell)&&(!decide (y.2=.local)||decide (scope.names.lookup y.1=some .local)) &&
 (!decide (y.2=.free)||((decide (names.lookup y.1=some .cell)||decide (names.lookup y.1=some .free))&&decide (scope.names.lookup y.1=some .free)))
variable {names:List (Str×NameKind)}
theorem wG (hX:X.env.scope.names=names) (b:scB names scope=true):ScOk X scope:=by
 subst hX
 unfold scB at b
 rw [aR,ba] at b
 obtain ⟨b0,b1⟩:=b
 refine ⟨of_decide_eq_true b0,fun y hy=>?_,fun y hy e=>?_,fun y hy e=>?_,fun y hy e=>?_⟩
 all_goals
  have q:=b1 y hy
  simp only [aR,Bool.or_eq_true,Bool.not_eq_true',decide_eq_true_eq,decide_eq_false_iff_not] at q
 ·exact q.1.1
 ·exact q.1.2.resolve_left fun z=>z e
 ·exact (q.2.resolve_left fun z=>z e).1
 ·exact (q.2.resolve_left fun z=>z e).2
noncomputable def qg3 (names:List (Str×NameKind)) (N:List Str) (scope:Scope) (Nc:List Str) (nt:Nat) (cap:List Nat):Bool:=decide cap.Nodup&&decide (Nc.length=nt+cap.length)&&(aJ cap.length).all fun j=>match cap[j]? with
 | some k=>match Nc[nt+j]? with
  | some x=>decide (N[k]?=some x)&&(((decide (names.lookup x=some .local)||decide (names.lookup x=some .cell)||decide (names.lookup x=some .free))&&decide ((x,bx)∈scope.names))||scope.names.all fun y=>decide (y.1≠x))
  | none=>false
 | none=>false
theorem ki {Nc:List Str} (hX:X.env.scope.names=names) (hN:X.N=N) (b:qg3 names N scope Nc nt cap=true):CapOk X scope Nc nt cap:=by
 subst hX hN
 unfold qg3 at b
 rw [aR,aR,ba] at b
 obtain ⟨⟨b0,b1⟩,b2⟩:=b
 refine ⟨of_decide_eq_true b0,of_decide_eq_true b1,fun j k hj=>?_⟩
 have q:=b2 j (bJ.mpr (aA.mp hj).1)
 rw [hj] at q
 cases e:Nc[nt+j]? with
 | none=>simp only [e] at q; cases q
 | some x=>
  simp only [e,aR,Bool.or_eq_true,decide_eq_true_eq] at q
  refine ⟨x,rfl,q.1,?_⟩
  rcases q.2 with ⟨z,q2⟩ | z
  ·refine .inl ⟨?_,q2⟩
   rcases z with (z | z) | z
   ·exact .inl z
   ·exact .inr (.inl z)
   ·exact .inr (.inr z)
  ·refine .inr fun k' hk'=>?_
   rw [ba] at z
   exact of_decide_eq_true (z (x,k') hk') rfl
theorem uR:wI (CXk P w) X (fun _ _ _=>False):=fun _ _ _ _ _ _ _ h=>by
 obtain ⟨_,_,_,_,_,_,_,_,_,_,_,_,_,_,hE⟩:=h
 exact hE.elim
noncomputable def qgn (f:Sl->Out (D×Sl)):Sl->Out (D×Sl):=fun ρ=>(jg f ρ).bind fun p=>.ok (.bl (!p.1),p.2)
section
variable {i:Int}
theorem yr (h:∃ t,X.mg x=some (.int i t)) (hg:Gl X x) (hd:(x == ("__debug__":Str))=false:=by decide):PE X (.Name x pos) (tE C own .sh (dC (.int i))):=by
 obtain ⟨t,h⟩:=h
 exact qb4 (v:=.int i) hg h ⟨t,rfl⟩ (fun _=>.int i) hd
end
section
variable {a b:Expr} {fb:Sl->Out (D×Sl)}
noncomputable def yt:D->Out D
 | .lst xs=>.ok (.tup xs)
 | .tup xs=>.ok (.tup xs)
 | _=>.bad
noncomputable def UC:D->Out D
 | .lst xs=>.ok (.lst xs)
 | .tup xs=>.ok (.lst xs)
 | _=>.bad
theorem xW (hK:C.K=X.K):Qk X C .sh (.type "tuple") yt:=by
 intro pins s σ H xs us Q I r h
 obtain ⟨x,F,dx,rfl,sb,tx,po⟩:=h
 cases dx with
 | lst ds=>
  obtain ⟨p,vs,rfl,hq,t⟩:=tx.lst sb
  refine yd pins s σ H _ us Q I r ⟨p,vs,rfl,.inl ⟨by rw [<-hK]; exact hq,fun l hl=>?_⟩⟩
  obtain ⟨s2,c2⟩:=yR (u:=.tup vs) sb hl
  exact po _ _ _ s2 c2 (.tup (.inl (.inl qr)) (t.mono c2.grow))
 | tup ds=>
  rcases tx with tx | ⟨_,_,tx⟩
  ·have tx0:=tx
   cases tx with
   | tup hq t=>exact yd pins s σ H _ us Q I r ⟨_,_,rfl,.inr ⟨by rw [<-hK]; exact qM sb hq,po _ F H sb .refl tx0⟩⟩
  ·exact tx.elim
 | _=>exact po.elim
theorem Xl (hK:C.K=X.K):Qk X C .fr (.type "list") UC:=by
 intro pins s σ H xs us Q I r h
 obtain ⟨x,F,dx,rfl,sb,tx,po⟩:=h
 cases dx with
 | lst ds=>
  obtain ⟨p,vs,rfl,hq,t⟩:=tx.lst sb
  refine xu pins s σ H _ us Q I r ⟨p,vs,rfl,.inl (by rw [<-hK]; exact hq),fun l hl=>?_⟩
  obtain ⟨s2,c2,hF⟩:=kX (u:=.lst vs) sb hl
  exact po _ _ _ s2 c2 ⟨l,rfl,hl,hF,vs,qr,t⟩
 | tup ds=>
  obtain ⟨p,vs,rfl,hq,t⟩:=tx.tup sb
  refine xu pins s σ H _ us Q I r ⟨p,vs,rfl,.inr (by rw [<-hK]; exact hq),fun l hl=>?_⟩
  obtain ⟨s2,c2,hF⟩:=kX (u:=.lst vs) sb hl
  exact po _ _ _ s2 c2 ⟨l,rfl,hl,hF,vs,qr,t⟩
 | _=>exact po.elim
def Xm (X:Cx) (C:Ct) (m:Mo) (f:Value) (g:D->D->Out D):Prop:=wH X f (fun xs H Q=>∃ x y F dx dy,xs=[x,y]/\Same F H/\TopIs C.K F H x dx/\TopIs C.K F H y dy/\PoV C m F H (g dx dy) Q)
theorem GQ {Q:VK} {g:D->D->Out D} (hma:ma≠.any) (h:tE C own m (d2 g fa fb) σ H Q):Uq (tE C own ma fa) (Uq (tE C own mb fb) qfv) σ H fun xs H1=>∃ x y F dx dy,xs=[x,y]/\Same F H1/\TopIs C.K F H1 x dx/\TopIs C.K F H1 y dy/\PoV C m F H1 (g dx dy) Q:=by
 obtain ⟨F,ρ,rp,h⟩:=JL (mb:=mb) hma h
 refine ⟨F,ρ,rp,?_⟩
 cases q:fa ρ with
 | ok p=>
  rw [q] at h
  obtain ⟨d,ρ1⟩:=p
  intro v F1 H1 rp1 c1 mo1
  obtain ⟨F2,ρ2,rp2,h2⟩:=h v F1 H1 rp1 c1 mo1
  refine ⟨F2,ρ2,rp2,?_⟩
  cases q2:fb ρ2 with
  | ok p=>
   rw [q2] at h2
   obtain ⟨d',ρ3⟩:=p
   intro w F3 H3 rp3 c3 mo3
   obtain ⟨F4,dx,dy,z⟩:=h2 w F3 H3 rp3 c3 mo3
   exact ⟨v,w,F4,dx,dy,rfl,z⟩
  | exc c=>rw [q2] at h2; exact h2
  | bad=>rw [q2] at h2; exact h2.elim
 | exc c=>rw [q] at h; exact h
 | bad=>rw [q] at h; exact h.elim
theorem zA {id:String} {p:Pos} {g:D->D->Out D} (hc:Xm X C m (.builtin id) g) (hg:Gl X x) (hm:X.mg x=none) (hv:bootBuiltins x=some (.builtin id)) (ha:PE X a (tE C own ma fa)) (hb:PE X b (tE C own mb fb)) (hma:ma≠.any:=by decide) (hn:x ≠ "__name__":=by decide) (hdb:(x == ("__debug__":Str))=false:=by decide)
  (h1:starEach [a,b] X.env=(false,eval a X.env)::starEach [b] X.env:=by rfl) (h2:starEach [b] X.env=[(false,eval b X.env)]:=by exact qV rfl):PE X (.Call (.Name x p) [a,b] [] pos) (tE C own m (d2 g fa fb)):=
 jG (vS hc hg hm hv (qS ha (qS hb jz h2) h1) hn hdb (by rw [h1]) (by rw [h2]; rfl)) fun _ _ _ h=>GQ hma h
noncomputable def qbh:D->D->Out D:=vV fun i j=>.ok (.int (if j > i then j else i))
noncomputable def qfz:D->D->Out D:=vV fun i j=>.ok (.int (if j < i then j else i))
theorem qbi (hc:X.calm=true):Xm X C .sh (.builtin "max") qbh:=by
 intro pins s σ H xs us Q I r h
 obtain ⟨x,y,F,dx,dy,rfl,sb,tx,ty,po⟩:=h
 cases dx <;> try exact po.elim
 cases dy <;> try exact po.elim
 obtain rfl:=tx.int
 obtain rfl:=ty.int
 exact Yu hc pins s σ H _ us Q I r ⟨_,_,rfl,po _ F H sb .refl (.int _)⟩
theorem qel (hc:X.calm=true):Xm X C .sh (.builtin "min") qfz:=by
 intro pins s σ H xs us Q I r h
 obtain ⟨x,y,F,dx,dy,rfl,sb,tx,ty,po⟩:=h
 cases dx <;> try exact po.elim
 cases dy <;> try exact po.elim
 obtain rfl:=tx.int
 obtain rfl:=ty.int
 exact Yv hc pins s σ H _ us Q I r ⟨_,_,rfl,po _ F H sb .refl (.int _)⟩
noncomputable def ko (a T:String):Option Bool:=if (eX a == eX T)=true then some true else if PySem.W.kitMeta T=true then (fastBuiltinMro a).map (·.contains (.type T)) else none
theorem GR (K:Frag) (a T:String):bU K (.type a) (.type T)=ko a T:=rfl
noncomputable def tyN:D->Option String
 | .non=>some "NoneType"
 | .bl _=>some "bool"
 | .int _=>some "int"
 | .str _=>some "str"
 | .tup _=>some "tuple"
 | .lst _=>some "list"
 | .dct _=>some "dict"
 | _=>none
noncomputable def gx (T:String) (d:D):Out D:=match tyN d with
 | some a=>match ko a T with
  | some b=>.ok (.bl b)
  | none=>.bad
 | none=>.bad
theorem GS (hK:C.K=X.K):wH X (.builtin "isinstance") (fun xs H Q=>∃ x F d,xs=[x,.ty T]/\Same F H/\TopIs C.K F H x d/\PoV C .sh F H (gx T d) Q):=by
 intro pins s σ H xs us Q I r h
 obtain ⟨x,F,d,rfl,sb,tx,po⟩:=h
 obtain ⟨u,c,rfl,ru,rc⟩:=Gr r
 cases rc
 cases q:tyN d with
 | none=>unfold gx at po; rw [q] at po; exact po.elim
 | some a=>
  cases q2:ko a T with
  | none=>unfold gx at po; rw [q] at po; simp only [q2] at po; exact po.elim
  | some b=>
   have po:PoV C .sh F H (.ok (.bl b)) Q:=by unfold gx at po; rw [q] at po; simp only [q2] at po; exact po
   have fin:∀ tk,EP X pins σ Q (.bool b) { s with toks:=tk }:=fun tk=>⟨.bl b,H,I.tok tk,rfl,po _ F H sb .refl (.bl b)⟩
   have e:bU X.K (.type a) (.type T)=some b:=(GR X.K a T).trans q2
   cases d with
   | non=>obtain rfl:=tx.non; cases ru; cases q; exact cG PySem.W.kitx_none I.kIn dh e (fun z=>nomatch z) fin
   | bl y=>obtain rfl:=tx.bl; cases ru; cases q; exact cG PySem.W.kitx_bool I.kIn dh e (fun z=>nomatch z) fin
   | int y=>obtain rfl:=tx.int; obtain ⟨t,rfl⟩:=ru; cases q; exact cG PySem.W.kitx_int I.kIn dh e (fun z=>nomatch z) fin
   | str y=>obtain ⟨rfl,_⟩:=tx.str; obtain ⟨t,rfl⟩:=ru; cases q; exact cG PySem.W.kitx_str I.kIn dh e (fun z=>nomatch z) fin
   | tup y=>
    obtain ⟨p,vs,rfl,hq,t⟩:=tx.tup sb
    cases ru; cases q
    obtain ⟨its,_,⟨o,h1,h2,_⟩,_⟩:=I.tuple (show SqT X.K H p vs by rw [<-hK]; exact hq)
    exact cG PySem.W.kitx_tuple I.kIn ⟨o,h1,h2⟩ e (fun z=>nomatch z) fin
   | lst y=>
    obtain ⟨p,vs,rfl,hq,t⟩:=tx.lst sb
    cases ru; cases q
    obtain ⟨its,_,⟨o,n,h1,h2,_⟩,_⟩:=I.list (show SqL X.K H p vs by rw [<-hK]; exact hq)
    exact cG PySem.W.kitx_list I.kIn ⟨o,h1,h2⟩ e (fun z=>nomatch z) fin
   | dct y=>
    obtain ⟨p,vs,rfl,hq,t⟩:=tx.dct sb
    cases ru; cases q
    obtain ⟨_,_,ws,_,o,es,ep,h1,h2,_⟩:=(show ObjOk X.prog X.w H s.heap p (.dK vs) from I.hok p _ hq)
    exact cG PySem.W.kitx_dict I.kIn ⟨o,h1,h2.1⟩ e (fun z=>nomatch z) fin
   | _=>cases q
theorem zB {tn:Str} {p tp:Pos} (hK:C.K=X.K) (hg:Gl X "isinstance") (hm:X.mg "isinstance"=none) (hv:bootBuiltins "isinstance"=some (.builtin "isinstance")) (ht:Gl X tn) (htm:X.mg tn=none) (htv:bootBuiltins tn=some (.type T)) (ha:PE X a (tE C own ma fa)) (hn:tn ≠ "__name__":=by decide) (hdb:(tn == ("__debug__":Str))=false:=by decide)
  (h1:starEach [a,.Name tn tp] X.env=(false,eval a X.env)::starEach [.Name tn tp] X.env:=by rfl) (h2:starEach [.Name tn tp] X.env=[(false,eval (.Name tn tp) X.env)]:=by rfl):PE X (.Call (.Name "isinstance" p) [a,.Name tn tp] [] pos) (tE C own .sh (d1 (gx T) fa)):=by
 refine jG (vS (GS (T:=T) hK) hg hm hv (qS ha (qS (Yl (v:=.ty T) ht htm htv rfl hn hdb) jz h2) h1) (by decide) (by decide) (by rw [h1]) (by rw [h2]; rfl)) fun σ H Q h=>?_
 obtain ⟨F,ρ,rp,h⟩:=Vd (ma:=ma) h
 refine ⟨F,ρ,rp,?_⟩
 cases q:fa ρ with
 | ok p=>
  rw [q] at h
  obtain ⟨d,ρ1⟩:=p
  intro v F1 H1 rp1 c1 mo1
  obtain ⟨F2,dx,z⟩:=h v F1 H1 rp1 c1 mo1
  exact ⟨v,F2,dx,rfl,z⟩
 | exc c=>rw [q] at h; exact h
 | bad=>rw [q] at h; exact h.elim
noncomputable def vI:List D->Option (List Bool)
 | []=>some []
 | .bl b::ds=>(vI ds).map (b::·)
 | _::_=>none
noncomputable def GT:D->Out D
 | .lst ds=>match vI ds with
  | some bs=>.ok (.bl (bs.all id))
  | none=>.bad
 | _=>.bad
theorem xX:∀ {vs:List V} {us:List Value} {ds:List D} {bs:List Bool},IsL K F vs ds->Vals vs us->vI ds=some bs->us=bs.map aN
 | _,_,_,_,.nil,.nil,e=>by cases e; rfl
 | _,_,_,_,.cons (d:=d) h t,.cons r rs,e=>by
  cases d with
  | bl b=>
   unfold vI at e
   obtain ⟨bs',e1,e2⟩:=aO.mp e
   subst e2
   cases h
   cases r
   rw [xX t rs e1]; rfl
  | _=>cases e
theorem Wx (hK:C.K=X.K) (hc:X.calm=true):Qk X C .sh (.builtin "all") GT:=by
 intro pins s σ H xs us Q I r h
 obtain ⟨x,F,dx,rfl,sb,tx,po⟩:=h
 cases dx <;> try exact po.elim
 rename_i ds
 obtain ⟨p,vs,rfl,hq,t⟩:=tx.lst sb
 obtain ⟨u,rfl,ru⟩:=uB r
 cases ru
 unfold GT at po
 cases q:vI ds with
 | none=>simp only [q] at po; exact po.elim
 | some bs=>
  simp only [q] at po
  obtain ⟨its,rv,pl,hz⟩:=I.list (show SqL X.K H p vs by rw [<-hK]; exact hq)
  have eb:=xX t rv q
  subst eb
  have hp:p < s.heap.objs.size:=let ⟨o,h1,_⟩:=pl.isList; ap h1
  refine call_all_walk (wpAny_pyIter_list pl.isList ?_)
  have W:Walks X.prog X.w X.A.in1 s.heap.objs.size [s.heap.objs.size,p] [s.heap.objs.size] (bs.map aN).toArray.size (fun i v=>(bs.map aN).toArray[i]?=some v) (fun i h=>h.IsListIter s.heap.objs.size p i/\h.IsList p (bs.map aN).toArray):=Walks.list (A:=X.A.in1) (show X.A.in1.handled=none from I.ok.hd hc) s.heap.objs.size p (aD hp) _
  have st:(s.heap.push { cls:=.type "list_iterator",data:=.fields #[.ref p,.int 0 0] }).IsListIter s.heap.objs.size p 0/\(s.heap.push { cls:=.type "list_iterator",data:=.fields #[.ref p,.int 0 0] }).IsList p (bs.map aN).toArray:=⟨⟨_,ak _ rfl,rfl,rfl⟩,let ⟨o,h1,h2⟩:=pl.isList; ⟨o,ae _ h1,h2⟩⟩
  refine ⟨_,_,_,_,_,_,fun i=>(bs[i]?).getD false,rfl,W,st,fun i v s' Q' E' hP hQ'=>?_,fun h' tk kp=>?_⟩
  ·have hP:(bs.map aN).toArray[i]?=some v:=hP
   rw [dY,aF] at hP
   cases qi:bs[i]? with
   | none=>rw [qi] at hP; cases hP
   | some b=>
    have hQ2:Q' ((bs[i]?).getD false) s':=hQ'
    rw [qi] at hP hQ2
    cases hP
    exact wpAny_truthy_bool hQ2
  ·have e:(aJ (bs.map aN).toArray.size).all (fun i=>(bs[i]?).getD false)=bs.all id:=by
    rw [aw,ay,Bool.eq_iff_iff,ba,ba]
    constructor
    ·intro h b hb
     obtain ⟨i,hi,e⟩:=d8.mp hb
     have:=h i (bJ.mpr hi)
     rw [aC hi,e] at this
     exact this
    ·intro h i hi
     have hi:=bJ.mp hi
     rw [aC hi]
     exact h _ (ce hi)
   rw [e]
   refine ⟨.bl (bs.all id),H,?_,rfl,po _ F H sb .refl (.bl _)⟩
   have k2:∀ b o,s.heap.get? b=some o->h'.get? b=some o:=fun b o eb=>kp b o (by simp; exact aD (ap eb)) (ae _ eb)
   exact I.kept (t':=tk) k2
end
noncomputable def Its (x:Str):It:=⟨fun i _=>i < x.cps.size,fun i H v H'=>H'=H/\∃ c,x.cps[i]?=some c/\v=.str ⟨#[c]⟩,fun i _=>x.cps.size<=i⟩
noncomputable def JY (x:Str):List D:=x.cps.toList.map fun c=>.str ⟨#[c]⟩
theorem Wz {P:Program} {w:World} {K:Frag} {tg:Expr} (it:Addr) (x:Str) (t:Tok) (ty:String) (hn:["enumerate", "zip", "dict_itemiterator", "dict_reverseitemiterator", "odict_iterator", "itertools.zip_longest", "itertools.pairwise"].contains ty=false)
  (W:∀ A:Around,A.handled=none->Walks P w A it [it] [it] x.cps.size (SignAt x) (fun i h=>h.IsStrIter it ty x t i)) (sf:∀ (A:Around) (i:Nat) (s:Shared) (Q:Value->Shared->Prop) (E:Value->Shared->Prop),s.heap.IsStrIter it ty x t i->Q (.ref it) s->wpAny (model P w) A (pyIter (.ref it)) Q E s) :
  Turn P w K tg (Its x) [it] it (fun i h=>h.IsStrIter it ty x t i/\i<=x.cps.size) where
 mem:=by simp
 obj:=fun i h st b hb=>by
  have e:b=it:=by simpa using hb
  subst e
  obtain ⟨o,e,c,d⟩:=st.1
  exact ⟨o,e,fun v z=>by rw [d] at z; cases z⟩
 keep:=fun i h h' st k=>by
  obtain ⟨⟨o,e,r⟩,hi⟩:=st
  exact ⟨⟨o,k it (by simp) o e,r⟩,hi⟩
 item:=by
  intro X hP hw hK hc i pins s σ H E I hf st hg
  subst hP hw hK
  obtain ⟨f0,f1,f2,f3,f4,f5⟩:=hf it (by simp)
  refine (W X.A (I.ok.hd hc)).item i s _ _ hg st.1 fun v h' tk hP st' kp=>?_
  have I1:Inv X pins σ H { s with heap:=h',toks:=tk }:=I.turned (t':=tk) (fun b o hb e=>kp b o (by simpa using hb) e) f0 f1 f3 f4 f5
  obtain ⟨o,e,c,d⟩:=id st'
  obtain ⟨c',u,h1,h2⟩:∃ c' u,x.cps[i]?=some c'/\v=eO ⟨#[c']⟩ u:=by
   unfold SignAt at hP
   first
    | exact hP
    | (obtain ⟨c',u,h1,h2⟩:=hP; exact ⟨c',u,h1,h2⟩)
    | (obtain ⟨c',h1,u,h2⟩:=hP; exact ⟨c',u,h1,h2⟩)
    | (obtain ⟨u,c',h1,h2⟩:=hP; exact ⟨c',u,h1,h2⟩)
  subst h2
  exact ⟨_,rfl,Yn (s:={ s with heap:=h',toks:=tk }) e c d hn ⟨.str ⟨#[c']⟩,H,I1,⟨u,rfl⟩,⟨rfl,c',h1,rfl⟩,⟨st',hg⟩,fun b hb=>(hf b hb).1⟩⟩
 done:=by
  intro X hP hw hK hc i pins s σ H E I hf st hg
  subst hP hw hK
  obtain ⟨f0,f1,f2,f3,f4,f5⟩:=hf it (by simp)
  have hi:i=x.cps.size:=Nat.le_antisymm st.2 hg
  subst hi
  exact (W X.A (I.ok.hd hc)).done s _ _ st.1 fun h' tk kp=>⟨rfl,I.turned (t':=tk) (fun b o hb e=>kp b o (by simpa using hb) e) f0 f1 f3 f4 f5⟩
 self:=fun A i s Q E st h=>sf A i s Q E st.1 h
theorem qem:ItIs K F (Its x) (JY x) where
 go:=fun i H hi _=>by
  have:i < x.cps.size:=by simpa [JY] using hi
  exact this
 yld:=fun i Fi H v H' d e s1 s2 y=>by
  obtain ⟨rfl,c,h1,rfl⟩:=y
  have e:d=.str ⟨#[c]⟩:=by
   unfold JY at e
   rw [aF] at e
   have h1:x.cps.toList[i]?=some c:=by simpa using h1
   rw [h1] at e
   exact (bc.inj e).symm
  subst e
  exact ⟨Fi,.refl,s2,.str (Wr c)⟩
 stop:=fun i H hi _=>by
  have:x.cps.size<=i:=by simpa [JY] using hi
  exact this
noncomputable def jK:D->Out (List D)
 | .lst xs=>.ok xs
 | .tup xs=>.ok xs
 | .str x=>.ok (JY x)
 | _=>.bad
noncomputable def kG (f:Sl->Out (D×Sl)):Sl->Out (List D×Sl):=fun ρ=>(f ρ).bind fun p=>(jK p.1).bind fun ds=>.ok (ds,p.2)
section
theorem qen {l:Expr} {tl:TE} (hl:PE X l tl):PI X tg l (fun σ H R=>tl σ H fun x H1=>(∃ a,x=.ref a/\(((∃ xs,SqL X.K H1 a xs)/\R (Itl X.K a) H1)\/((∃ xs,SqT X.K H1 a xs)/\R (Itt X.K a) H1)))\/∃ z,x=.str z/\R (Its z) H1):=by
 refine ⟨?_⟩
 intro pins s σ H R I h
 refine thn (hl pins s σ H _ I h) fun v s1 ⟨x,H1,I1,r1,q1⟩=>?_
 have fp:∀ b∈[s1.heap.objs.size],KP X pins H1 b:=fun b hb=>by
  have e:b=s1.heap.objs.size:=by simpa using hb
  subst e
  exact I1.fpOk (aB _) (I1.hok.fresh (aB _))
 rcases q1 with ⟨a,rfl,q⟩ | ⟨z,rfl,q⟩
 ·cases r1
  rcases q with ⟨⟨xs,hq⟩,q⟩ | ⟨⟨xs,hq⟩,q⟩
  ·obtain ⟨its,rv,p,hz⟩:=I1.list hq
   refine wpAny_pyIter_list p.isList ?_
   exact ⟨s1.heap.objs.size,[s1.heap.objs.size],_,_,H1,rfl,I1.kept (t':=s1.toks) fun b o e=>ae _ e,Yo a _,⟨_,ak _ rfl,rfl,rfl⟩,fp,q⟩
  ·obtain ⟨its,rv,p,hz⟩:=I1.tuple hq
   refine wpAny_pyIter_tuple (show s1.heap.IsTuple a its.toArray from p) ?_
   exact ⟨s1.heap.objs.size,[s1.heap.objs.size],_,_,H1,rfl,I1.kept (t':=s1.toks) fun b o e=>ae _ e,Ul a _,⟨_,ak _ rfl,rfl,rfl⟩,fp,q⟩
 ·obtain ⟨t,rfl⟩:=r1
  cases ha:z.cps.all (· < 128) with
  | true=>
   refine wpAny_pyIter_ascii ha ?_
   exact ⟨s1.heap.objs.size,[s1.heap.objs.size],_,_,H1,rfl,I1.kept (t':=s1.toks) fun b o e=>ae _ e,Wz _ z t "str_ascii_iterator" (by decide) (fun A hA=>Walks.strAscii hA _ z t) (fun A i s Q E st h=>wpAny_pyIter_striter_ascii st h),⟨⟨_,ak _ rfl,rfl,rfl⟩,bq _⟩,fp,q⟩
  | false=>
   refine wpAny_pyIter_wide ha ?_
   exact ⟨s1.heap.objs.size,[s1.heap.objs.size],_,_,H1,rfl,I1.kept (t':=s1.toks) fun b o e=>ae _ e,Wz _ z t "str_iterator" (by decide) (fun A hA=>Walks.strWide hA _ z t) (fun A i s Q E st h=>wpAny_pyIter_striter_wide st h),⟨⟨_,ak _ rfl,rfl,rfl⟩,bq _⟩,fp,q⟩
theorem qZ (hK:C.K=X.K) (h:PE X e (tE C own m f)) (hm:m≠.any:=by decide):PI X tg e (tIt C own (kG f)):=by
 refine GJ (qen (uM h hm)) fun σ H R ⟨F,ρ,rp,h⟩=>⟨F,ρ,rp,PoI.bindV h fun v F1 H1 d ρ1 rp1 c1 mo1 h1=>?_⟩
 have mo1:Is C.K F1 v d:=mo1
 cases mo1 with
 | lst p t=>exact .inl ⟨_,rfl,.inl ⟨⟨_,by rw [<-hK]; exact rp1.sub.seq p⟩,by rw [<-hK]; exact h1 _ F1 H1 rp1 c1 (qee p t)⟩⟩
 | tup p t=>exact .inl ⟨_,rfl,.inr ⟨⟨_,by rw [<-hK]; exact qM rp1.sub p⟩,by rw [<-hK]; exact h1 _ F1 H1 rp1 c1 (qef p t)⟩⟩
 | str hz=>exact .inr ⟨_,rfl,h1 _ F1 H1 rp1 c1 qem⟩
 | _=>exact h1.elim
end
noncomputable def WA (b:Bool):D->Out D
 | .lst ds=>match vI ds with
  | some bs=>.ok (.int (bs.countP (· == b):Nat))
  | none=>.bad
 | _=>.bad
noncomputable def WB (b:Bool):D->Out D
 | .lst ds=>match vI ds with
  | some bs=>match bs.findIdx? (· == b) with
   | some j=>.ok (.int (j:Nat))
   | none=>.bad
  | none=>.bad
 | _=>.bad
section
variable {o:Expr} {fo:Sl->Out (D×Sl)} {apos:Pos} {b:Bool}
theorem JZ (A:Around) (s:Shared) (c b:Bool):fL A s (.bool c) (.bool b) (c == b):=SeqAt.EqAt.bool_bool _ _
theorem GU:MtR X "list.count" (fun x vs H Q=>∃ (a:Addr) (xs:List V) (bs:List Bool) (b:Bool),x=.ref a/\vs=[.bl b]/\SqL X.K H a xs/\(∀ us,Vals xs us->us=bs.map aN)/\Q (.int (bs.countP (· == b):Nat)) H):=by
 intro pins s σ H x vs v us Q I rx rv h
 obtain ⟨a,xs,bs,b,rfl,rfl,hq,hb,q⟩:=h
 cases rx
 obtain ⟨u,rfl,ru⟩:=rv.one
 cases ru
 obtain ⟨its,r,pl,hz⟩:=I.list hq
 have e:=hb its r
 subst e
 obtain ⟨⟨cls,dd,data,sl⟩,n,ho,hc,hd,hdt⟩:=pl
 simp only at hc hd hdt
 subst hc hdt
 refine call_meets PySem.F.slot_list_count ⟨_,ho,rfl⟩ PySem.F.entry_list_count (PySem.F.args_list_count_2 _ _) (SeqAt.list_countAt a _ n dd sl (.bool b) (fun v=>v == .bool b)) ⟨ho,fun y hy=>?_,?_⟩
 ·have hy:y∈bs.map aN:=by simpa using hy
  obtain ⟨c,_,rfl⟩:=ah.mp hy
  have e:(aN c == aN b)=(c == b):=by cases c <;> cases b <;> rfl
  show fL _ s (.bool c) (.bool b) (aN c == aN b)
  rw [e]
  exact JZ _ s c b
 ·refine ⟨.int (bs.countP (· == b):Nat),H,I.tok _,⟨s.toks,?_⟩,q⟩
  have e:(bs.map aN).toArray.toList.countP (fun v=>v == aN b)=bs.countP (· == b):=by
   rw [List.toList_toArray,List.countP_map]
   congr 1
   funext c
   cases c <;> cases b <;> rfl
  rw [e]
theorem GV:MtR X "list.index" (fun x vs H Q=>∃ (a:Addr) (xs:List V) (bs:List Bool) (b:Bool) (j:Nat),x=.ref a/\vs=[.bl b]/\SqL X.K H a xs/\(∀ us,Vals xs us->us=bs.map aN)/\bs.findIdx? (· == b)=some j/\Q (.int (j:Nat)) H):=by
 intro pins s σ H x vs v us Q I rx rv h
 obtain ⟨a,xs,bs,b,j,rfl,rfl,hq,hb,hj,q⟩:=h
 cases rx
 obtain ⟨u,rfl,ru⟩:=rv.one
 cases ru
 obtain ⟨its,r,pl,hz⟩:=I.list hq
 have e:=hb its r
 subst e
 obtain ⟨⟨cls,dd,data,sl⟩,n,ho,hc,hd,hdt⟩:=pl
 simp only at hc hd hdt
 subst hc hdt
 obtain ⟨hj1,hj2,hj3⟩:=List.findIdx?_eq_some_iff_getElem.mp hj
 have hlen:bs.length<=sizeLine:=by have:=r.length; simp at this; omega
 have ev:∀ c:Bool,(aN c == aN b)=(c == b):=fun c=>by cases c <;> cases b <;> rfl
 refine call_meets PySem.F.slot_list_index ⟨_,ho,rfl⟩ PySem.F.entry_list_index (PySem.F.args_list_index_2 _ _) (SeqAt.list_indexAt a _ n dd sl (.bool b) (fun v=>v == .bool b) j (by simpa using hj1) (by rw [sizeLine_eq] at hlen; omega) (by simp [ev]; simpa using hj2) fun m hm h1=>?_) ⟨ho,fun y hy=>?_,?_⟩
 ·have:=hj3 m h1
  simp [ev]
  simpa using this
 ·have hy:y∈bs.map aN:=by simpa using hy
  obtain ⟨c,_,rfl⟩:=ah.mp hy
  show fL _ s (.bool c) (.bool b) (aN c == aN b)
  rw [ev]
  exact JZ _ s c b
 ·exact ⟨.int (j:Nat),H,I.tok _,⟨_,rfl⟩,q⟩
theorem GW {c1 c2} (hK:C.K=X.K) (ho:PE X o (tE C own m fo))
  (hbase:attributeBase o "count" X.env (eval o X.env)=eval o X.env:=by rfl)
  (hfew:((backTo cpos (starEach [.Constant (.bool b) c1 c2] X.env)).all (fun x=>!x.1)&&(backToKw cpos (keywordEach [] X.env)).all (fun x=>x.1.isSome)
   && decide ([fB (.bool b) c1 c2].length+([]:List Keyword).length+(if ([]:List Keyword).isEmpty then 0 else 1) < 30))=true:=by exact vU rfl)
  (hline:(apos.endLine == cpos.line)=true:=by rfl) (hs:starEach [.Constant (.bool b) c1 c2] X.env=[(false,eval (.Constant (.bool b) c1 c2) X.env)]:=by exact qV rfl) :
  PE X (.Call (.Attribute o "count" apos) [.Constant (.bool b) c1 c2] [] cpos) (tE C own .sh (d1 (WA b) fo)):=by
 refine jG (Us ck PySem.F.slot_list_count PySem.F.type_list_count GU ho (qS qbM jz hs) hbase hfew hline hs rfl) fun σ H Q h=>?_
 obtain ⟨F,ρ,rp,h⟩:=Vd (ma:=m) h
 refine ⟨F,ρ,rp,?_⟩
 cases q:fo ρ with
 | ok p=>
  rw [q] at h
  obtain ⟨d,ρ1⟩:=p
  intro v F1 H1 rp1 c1 mo1
  obtain ⟨F2,dx,sb,tx,po⟩:=h v F1 H1 rp1 c1 mo1
  cases dx <;> try exact po.elim
  rename_i ds
  unfold WA at po
  cases q2:vI ds with
  | none=>simp only [q2] at po; exact po.elim
  | some bs=>
   simp only [q2] at po
   obtain ⟨a,vs,rfl,hq,t⟩:=tx.lst sb
   have hq':SqL X.K H1 a vs:=by rw [<-hK]; exact hq
   exact ⟨.inl ⟨rfl,vs,hq'⟩,a,vs,bs,b,rfl,rfl,hq',fun us r=>xX t r q2,po _ F2 H1 sb .refl (.int _)⟩
 | exc c=>rw [q] at h; exact h
 | bad=>rw [q] at h; exact h.elim
theorem GX {c1 c2} (hK:C.K=X.K) (ho:PE X o (tE C own m fo))
  (hbase:attributeBase o "index" X.env (eval o X.env)=eval o X.env:=by rfl)
  (hfew:((backTo cpos (starEach [.Constant (.bool b) c1 c2] X.env)).all (fun x=>!x.1)&&(backToKw cpos (keywordEach [] X.env)).all (fun x=>x.1.isSome)
   && decide ([fB (.bool b) c1 c2].length+([]:List Keyword).length+(if ([]:List Keyword).isEmpty then 0 else 1) < 30))=true:=by exact vU rfl)
  (hline:(apos.endLine == cpos.line)=true:=by rfl) (hs:starEach [.Constant (.bool b) c1 c2] X.env=[(false,eval (.Constant (.bool b) c1 c2) X.env)]:=by exact qV rfl) :
  PE X (.Call (.Attribute o "index" apos) [.Constant (.bool b) c1 c2] [] cpos) (tE C own .sh (d1 (WB b) fo)):=by
 refine jG (Us ck PySem.F.slot_list_index PySem.F.type_list_index GV ho (qS qbM jz hs) hbase hfew hline hs rfl) fun σ H Q h=>?_
 obtain ⟨F,ρ,rp,h⟩:=Vd (ma:=m) h
 refine ⟨F,ρ,rp,?_⟩
 cases q:fo ρ with
 | ok p=>
  rw [q] at h
  obtain ⟨d,ρ1⟩:=p
  intro v F1 H1 rp1 c1 mo1
  obtain ⟨F2,dx,sb,tx,po⟩:=h v F1 H1 rp1 c1 mo1
  cases dx <;> try exact po.elim
  rename_i ds
  unfold WB at po
  cases q2:vI ds with
  | none=>simp only [q2] at po; exact po.elim
  | some bs=>
   simp only [q2] at po
   cases q3:bs.findIdx? (· == b) with
   | none=>simp only [q3] at po; exact po.elim
   | some j=>
    simp only [q3] at po
    obtain ⟨a,vs,rfl,hq,t⟩:=tx.lst sb
    have hq':SqL X.K H1 a vs:=by rw [<-hK]; exact hq
    exact ⟨.inl ⟨rfl,vs,hq'⟩,a,vs,bs,b,j,rfl,rfl,hq',fun us r=>xX t r q2,q3,po _ F2 H1 sb .refl (.int _)⟩
 | exc c=>rw [q] at h; exact h
 | bad=>rw [q] at h; exact h.elim
end
end L2.D2
namespace L2.D2
open PySem PySem.Spec PySem.Calls PyProof.Rows PySem.W Builtin Builtin.ObjectAttr Builtin.Getset_descriptor
variable {K:Frag} {R:Result->Shared->Prop}
section
variable {prog:Program} {w:World} {A:Around} {E:Value->Shared->Prop} {h:Heap} {g:Array GenState} {d:Drawn} {t:Nat} {os:OsState} {a C:Addr} {o:Obj}
theorem qeo (X:K.In h) (L0:Looks (model prog w) h (typeOf (.ref a)) (.ref C)) (hm:mroIn K C (.type "object")=some true) (hq:R (.ok (.ret (.ref C))) ⟨h,g,d,t,os⟩) :
  codeAny (model prog w) A (.call (.builtin "getset_descriptor.__get__") ⟨[.builtin "object.__class__",.ref a,.ref C],[]⟩) R ⟨h,g,d,t,os⟩:=by
 have L1:=looks_mroIn (M:=model prog w) X hm
 refine codeAny_call_builtin KF.slot_gs.plain KF.entry_gs (KF.slot_gs.check _ _ _ _ _ _ _ _ fC (KF.args_gs _ _ _) ?_)
 unfold Builtin.«getset_descriptor.__get__» descrGet
 rw [dga_obj]
 refine wpAny_bind (wpAny_pure ?_)
 unfold descrGetter descrCheckInstance descrNameAndClass isInstance
 simp only [KF.owner_class]
 repeat lk
 refine ⟨Code.quiet_builtin _ (by decide +kernel),codeAny_builtin KF.entry_class ?_⟩
 unfold Builtin.«object.__class__» shownTypeOf
 repeat lk
 exact hq
theorem GY {nameV:Value} {Q:Unit->Shared->Prop} (X:K.In h) (L0:Looks (model prog w) h (typeOf (.ref a)) (.ref C)) (hs:subIn K (.ref C) (.type "BaseException")=some true) (hq:Q () ⟨h,g,d,t,os⟩) :
  wpAny (model prog w) A (checkBuiltinCall "BaseException.__getattribute__" ⟨[.ref a,nameV],[]⟩) Q E ⟨h,g,d,t,os⟩:=by
 have hk:builtinKind "BaseException.__getattribute__"=some .slot:=by decide +kernel
 have hsplit:splitId "BaseException.__getattribute__"=some ("BaseException", "__getattribute__"):=by decide +kernel
 have ha:=F.args_bexc_ga (.ref a) nameV
 have LI:Looks (model prog w) h (isInstance (.ref a) (.type "BaseException")) true:=L0.andThen (looks_subIn X hs)
 simp only [checkBuiltinCall,hk,hsplit]
 refine wpAny_bind (LI.at ?_)
 repeat (first | assumption | wp_step)
theorem GZ {tk:Tok} {Q:Fin->Shared->Prop} (X:K.In h) (L0:Looks (model prog w) h (typeOf (.ref a)) (.ref C)) (g3:findIn K (.ref C) "__class__"=some (some (.builtin "object.__class__"))) (hm:mroIn K C (.type "object")=some true) (hq:Q (.done (.ret (.ref C))) ⟨h,g,d,t,os⟩) :
  wpAny (model prog w) A (Builtin.«object.__getattribute__» ⟨[.ref a,.str "__class__" tk],[]⟩) Q E ⟨h,g,d,t,os⟩:=by
 have L3:=looks_findIn (M:=model prog w) X g3
 have hT5:(⟨h,g,d,t,os⟩:Shared).TypeIs (.builtin "object.__class__") "getset_descriptor":=fC
 have f5:=fC
 have f6:=F.slot_gs_get.lookup
 have f7:=F.slot_gs_set.lookup
 repeat (any_goals (first | assumption | with_reducible refine L0.at ?_ | with_reducible refine L3.at ?_ | wp_step))
 refine qeo X L0 hm ?_
 repeat (any_goals (first | assumption | wp_step))
theorem qcr {tk:Tok} (X:K.In h) (L0:Looks (model prog w) h (typeOf (.ref a)) (.ref C)) (hs:subIn K (.ref C) (.type "BaseException")=some true) (g3:findIn K (.ref C) "__class__"=some (some (.builtin "object.__class__"))) (hm:mroIn K C (.type "object")=some true) (hq:R (.ok (.ret (.ref C))) ⟨h,g,d,t,os⟩) :
  codeAny (model prog w) A (.call (.builtin "BaseException.__getattribute__") ⟨[.ref a,.str "__class__" tk],[]⟩) R ⟨h,g,d,t,os⟩:=
 codeAny_call_builtin F.excAttr_ValueError.ga.plain F.entry_bexc_ga (GY X L0 hs (GZ X L0 g3 hm hq))
theorem qgo {tk:Tok} {fill expr:Bool} {Q:Value->Shared->Prop} (X:K.In h) (L0:Looks (model prog w) h (typeOf (.ref a)) (.ref C)) (hs:subIn K (.ref C) (.type "BaseException")=some true) (g1:findIn K (.ref C) "__getattribute__"=some (some (.builtin "BaseException.__getattribute__"))) (g2:findIn K (.ref C) "__getattr__"=some none)
  (g3:findIn K (.ref C) "__class__"=some (some (.builtin "object.__class__"))) (hm:mroIn K C (.type "object")=some true) (hq:Q (.ref C) ⟨h,g,d,t,os⟩) :
  wpAny (model prog w) A (getAttrBy (.ref a) (.str "__class__" tk) fill expr) Q E ⟨h,g,d,t,os⟩:=by
 have L1:=looks_findIn (M:=model prog w) X g1
 have L2:=looks_findIn (M:=model prog w) X g2
 have f3:=F.excAttr_ValueError.ga.bind (.ref a)
 have hx0:(expr&&onTheHeap (c6 "BaseException.__getattribute__"))=false:=by cases expr <;> rfl
 have hx2:(c6 "BaseException.__getattribute__" == c6 "object.__getattribute__")=false:=by decide +kernel
 have hx1:(onTheHeap (bO C)&&c6 "BaseException.__getattribute__" == c6 "object.__getattribute__")=false:=by rw [hx2]; rfl
 repeat (any_goals (first | assumption | with_reducible refine L0.at ?_ | with_reducible refine L1.at ?_ | with_reducible refine L2.at ?_ | wp_step))
 refine qcr X L0 hs g3 hm ?_
 repeat (any_goals (first | assumption | wp_step))
theorem qcs {Q:Option Value->Shared->Prop} (X:K.In h) (L0:Looks (model prog w) h (typeOf (.ref a)) (.ref C)) (hs:subIn K (.ref C) (.type "BaseException")=some true) (g1:findIn K (.ref C) "__getattribute__"=some (some (.builtin "BaseException.__getattribute__"))) (g2:findIn K (.ref C) "__getattr__"=some none)
  (g3:findIn K (.ref C) "__class__"=some (some (.builtin "object.__class__"))) (hm:mroIn K C (.type "object")=some true) (hq:Q (some (.ref C)) ⟨h,g,d,t+1,os⟩) :
  wpAny (model prog w) A (getAttr? (.ref a) "__class__") Q E ⟨h,g,d,t,os⟩:=by
 unfold getAttr? getAttrBy?
 exact wpAny_bind (wpAny_mkText (wpAny_bind (wpAny_attempt (qgo X L0 hs g1 g2 g3 hm (wpAny_pure hq)))))
end
noncomputable def xcB (K:Frag) (C:Addr):Bool:=decide (subIn K (.ref C) (.type "BaseException")=some true)&&decide (findIn K (.ref C) "__getattribute__"=some (some (.builtin "BaseException.__getattribute__")))&&decide (findIn K (.ref C) "__getattr__"=some none) &&
 decide (findIn K (.ref C) "__class__"=some (some (.builtin "object.__class__")))&&decide (mroIn K C (.type "object")=some true)&&(clsIn K C).isSome
def qct (a C:Addr) (h:Heap):Prop:=∃ oe vs,h.get? a=some oe/\oe.cls=.ref C/\oe.data=.fields vs
theorem qaa {a C:Addr} (b:xcB K C=true):KitX K (.ref a) (.ref C) (qct a C):=by
 unfold xcB at b
 simp only [aR,decide_eq_true_eq] at b
 obtain ⟨⟨⟨⟨⟨b1,b2⟩,b3⟩,b4⟩,b5⟩,b6⟩:=b
 have ty:∀ (M:Model) (h:Heap),qct a C h->Looks M h (typeOf (.ref a)) (.ref C):=fun M h ⟨oe,vs,e1,e2,e3⟩=>by rw [<-e2]; exact (Looks.ld e1).andThen .now
 refine ⟨fun M h _ x=>ty M h x,fun M h X _=>?_,fun h tp dd its n sl X ht=>?_,fun {prog w A E Q s} X x hq=>?_⟩
 ·unfold clsIn at b6
  split at b6
  ·rename_i c' d' cd' sl' ho
   intro A' Q' E' s' k q
   unfold isType loadHead
   exact wpAny_bind (wpAny_loadPart (k _ _ (X _ _ ho)) (wpAny_pure q))
  ·cases b6
 ·refine Bool.eq_false_iff.mpr fun q=>?_
  have q:bO C=bO tp:=beq_iff_eq.mp q
  cases q
  unfold clsIn at b6
  split at b6
  ·rename_i c' d' cd' sl' ho
   rw [X _ _ ho] at ht
   cases ht
  ·cases b6
 ·obtain ⟨h,g,d,t,os⟩:=s
  exact qcs X (ty _ h x) b1 b2 b3 b4 b5 hq
noncomputable def gB (ans:Addr->Option Bool):D->Out D
 | .xcp C=>match ans C with
  | some b=>.ok (.bl b)
  | none=>.bad
 | _=>.bad
variable {cn:Str}
section
variable {X:Cx} {C:Ct} {own:List Nat} {a:Expr} {fa:Sl->Out (D×Sl)} {ma:Mo} {pos:Pos} {cls:Value} {vc:V} {ans:Addr->Option Bool}
theorem WC (hans:∀ Cc b,ans Cc=some b->xcB X.K Cc=true/\kitOne X.K (.ref Cc) cls=some b) (rc:RelV vc cls):wH X (.builtin "isinstance") (fun xs H Q=>∃ x F d,xs=[x,vc]/\Same F H/\TopIs C.K F H x d/\PoV C .sh F H (gB ans d) Q):=by
 intro pins s σ H xs us Q I r h
 obtain ⟨x,F,d,rfl,sb,tx,po⟩:=h
 obtain ⟨u,c,rfl,ru,rc'⟩:=Gr r
 cases d with
 | xcp Cc=>
  unfold gB at po
  cases q:ans Cc with
  | none=>simp only [q] at po; exact po.elim
  | some b=>
   simp only [q] at po
   obtain ⟨h1,h2⟩:=hans Cc b q
   rcases tx with tx | ⟨_,_,tx⟩
   ·cases tx with
    | @xcp ad _ hF=>
     cases ru
     have hx:qct ad Cc s.heap:=(show ObjOk X.prog X.w H s.heap ad (Vc ad Cc) from I.hok ad _ (sb _ _ hF)).1
     have e:cls=c:=by
      cases vc with
      | ref z=>exact (show cls=bO z from rc).trans (show c=bO z from rc').symm
      | ty z=>exact (show cls=eX z from rc).trans (show c=eX z from rc').symm
      | non=>exact (show cls=cz from rc).trans (show c=cz from rc').symm
      | bl z=>exact (show cls=aN z from rc).trans (show c=aN z from rc').symm
      | int z=>obtain ⟨t,rfl⟩:=rc; unfold kitOne kitCls at h2; simp at h2
      | str z=>obtain ⟨t,rfl⟩:=rc; unfold kitOne kitCls at h2; simp at h2
      | byt z=>obtain ⟨t,rfl⟩:=rc; unfold kitOne kitCls at h2; simp at h2
      | flt z=>obtain ⟨t,rfl⟩:=rc; unfold kitOne kitCls at h2; simp at h2
     subst e
     exact kia_one (qaa h1) I.kIn hx h2 (fun z=>nomatch z) fun tk=>⟨.bl b,H,I.tok tk,rfl,po _ F H sb .refl (.bl b)⟩
   ·exact tx.elim
 | _=>exact po.elim
theorem WD {σ:St} {H:Hp} {Q:VK} (h:tE C own .sh (d1 (gB ans) fa) σ H Q):Uq (tE C own ma fa) (Uq (tC vc) qfv) σ H fun xs H1=>∃ x F d,xs=[x,vc]/\Same F H1/\TopIs C.K F H1 x d/\PoV C .sh F H1 (gB ans d) Q:=by
 obtain ⟨F,ρ,rp,h⟩:=Vd (ma:=ma) h
 refine ⟨F,ρ,rp,?_⟩
 cases q:fa ρ with
 | ok p=>
  rw [q] at h
  obtain ⟨d,ρ1⟩:=p
  intro v F1 H1 rp1 c1 mo1
  obtain ⟨F2,dx,z⟩:=h v F1 H1 rp1 c1 mo1
  exact ⟨v,F2,dx,rfl,z⟩
 | exc c=>rw [q] at h; exact h
 | bad=>rw [q] at h; exact h.elim
theorem vJ {Ct:Addr} {p tp:Pos} (hg:Gl X "isinstance") (hm:X.mg "isinstance"=none) (hv:bootBuiltins "isinstance"=some (.builtin "isinstance")) (ht:Gl X cn) (htm:X.mg cn=some (.ref Ct)) (hans:∀ Cc b,ans Cc=some b->xcB X.K Cc=true/\kitOne X.K (.ref Cc) (.ref Ct)=some b) (ha:PE X a (tE C own ma fa)) (hdb:(cn == ("__debug__":Str))=false:=by decide)
  (h1:starEach [a,.Name cn tp] X.env=(false,eval a X.env)::starEach [.Name cn tp] X.env:=by rfl) (h2:starEach [.Name cn tp] X.env=[(false,eval (.Name cn tp) X.env)]:=by rfl):PE X (.Call (.Name "isinstance" p) [a,.Name cn tp] [] pos) (tE C own .sh (d1 (gB ans) fa)):=
 jG (vS (WC (vc:=.ref Ct) hans rfl) hg hm hv (qS ha (qS (Yk (v:=.ref Ct) ht htm rfl hdb) jz h2) h1) (by decide) (by decide) (by rw [h1]) (by rw [h2]; rfl)) fun σ H Q h=>WD h
theorem qcu {T:String} {p tp:Pos} (hg:Gl X "isinstance") (hm:X.mg "isinstance"=none) (hv:bootBuiltins "isinstance"=some (.builtin "isinstance")) (ht:Gl X cn) (htm:X.mg cn=none) (htv:bootBuiltins cn=some (.type T)) (hans:∀ Cc b,ans Cc=some b->xcB X.K Cc=true/\kitOne X.K (.ref Cc) (.type T)=some b) (ha:PE X a (tE C own ma fa)) (hn:cn ≠ "__name__":=by decide) (hdb:(cn == ("__debug__":Str))=false:=by decide)
  (h1:starEach [a,.Name cn tp] X.env=(false,eval a X.env)::starEach [.Name cn tp] X.env:=by rfl) (h2:starEach [.Name cn tp] X.env=[(false,eval (.Name cn tp) X.env)]:=by rfl):PE X (.Call (.Name "isinstance" p) [a,.Name cn tp] [] pos) (tE C own .sh (d1 (gB ans) fa)):=
 jG (vS (WC (vc:=.ty T) hans rfl) hg hm hv (qS ha (qS (Yl (v:=.ty T) ht htm htv rfl hn hdb) jz h2) h1) (by decide) (by decide) (by rw [h1]) (by rw [h2]; rfl)) fun σ H Q h=>WD h
end
end L2.D2
namespace L2.D2
open PySem PySem.Spec PyProof.Rows
variable {P:Program} {w:World} {K:Frag} {N:List Str} {A:Around} {C:Ct}
theorem Ka {mg:Str->Option Value} {base:Heap} {qual:Str} {scope:Scope} {f:Addr} {cd:Value} {outer:List Env} {s0:Shared} {H0:Hp} {E:XK} (h:C.E=E):Xg (cxk P w K mg base N qual scope f cd A outer s0 H0 E) C:=by
 subst h
 exact qej
theorem RoomQ.mono {j k:Nat} (r:RoomQ k A) (h:j<=k):RoomQ j A:=⟨by have:=r.dp; omega,by have:=r.un; omega⟩
noncomputable def qep (ca:Str->Addr) (cs:List Str) (c:Str):Option Addr:=if c∈cs then some (ca c) else none
noncomputable def Kb (ca:Str->Addr) (cs:List Str) (x:Str) (C:Addr):Option Bool:=if C∈cs.map ca then some (decide (C=ca x)) else none
noncomputable def qeq (ca:Str->Addr) (cs:List Str) (C:Addr):Option Bool:=if C∈cs.map ca then some true else none
structure Xs (K:Frag) (cv:Str->Value) (ca:Str->Addr) (cs:List Str) (top:Str):Prop where
 val:∀ c∈cs,cv c=.ref (ca c)
 own:∀ c∈cs,dj K (.ref (ca c)) (cv top)=some true
 cls:∀ c∈cs,xcB K (ca c)=true
 kit:∀ c∈cs,∀ d∈cs,bU K (.ref (ca c)) (.ref (ca d))=some (decide (ca c=ca d))
 ve:∀ c∈cs,bU K (.ref (ca c)) (.type "ValueError")=some true
variable {x:Str}
section
variable {cv:Str->Value} {ca:Str->Addr} {cs:List Str} {top:Str}
theorem Xs.hit (z:Xs K cv ca cs top):∀ c Cc,qep ca cs c=some Cc->cv c=.ref Cc/\dj K (.ref Cc) (cv top)=some true:=fun c Cc h=>by
 unfold qep at h
 split at h
 ·cases h
  exact ⟨z.val c (by assumption),z.own c (by assumption)⟩
 ·cases h
theorem Xs.ans (z:Xs K cv ca cs top) (hx:x∈cs):∀ Cc b,Kb ca cs x Cc=some b->xcB K Cc=true/\bU K (.ref Cc) (.ref (ca x))=some b:=fun Cc b h=>by
 unfold Kb at h
 split at h
 ·rename_i hm
  obtain ⟨c,hc,rfl⟩:=ah.mp hm
  cases h
  exact ⟨z.cls c hc,z.kit c hc x hx⟩
 ·cases h
theorem Xs.ansV (z:Xs K cv ca cs top):∀ Cc b,qeq ca cs Cc=some b->xcB K Cc=true/\bU K (.ref Cc) (.type "ValueError")=some b:=fun Cc b h=>by
 unfold qeq at h
 split at h
 ·rename_i hm
  obtain ⟨c,hc,rfl⟩:=ah.mp hm
  cases h
  exact ⟨z.cls c hc,z.ve c hc⟩
 ·cases h
end
variable {E:Value->Shared->Prop} {prog:Program} {s:Shared} {a it:Addr} {o:Obj} {items:Array Value}
section
theorem UD:typeLookup (.type "tuple") "keys"=pure none:=by rw [typeLookup_type,builtinLookup_eq_fast]; kernel_rfl
theorem gC {xs:Array Value} {k:Nat} {Q:Option Value->Shared->Prop} (hh:A.handled=none) (hx:s.heap.get? a=some o) (hc:o.cls=.type "tuple") (hdat:o.data=.seq xs k) (hd:o.dict=none)
  (h:∀ h' tk,(∀ b ob,s.heap.get? b=some ob->h'.get? b=some ob)->Q none { s with heap:=h',toks:=tk }):wpAny (model prog w) A (getAttr? (.ref a) "keys") Q E s:=by
 obtain ⟨c,dct,dat,sl⟩:=o
 simp only at hc hdat hd
 subst hc hdat hd
 obtain ⟨hp,g,d,tk,os⟩:=s
 have hT:∀ tk',(⟨hp,g,d,tk',os⟩:Shared).TypeIs (.ref a) "tuple":=fun _=>⟨_,hx,rfl⟩
 have f1:=sub_AttributeError
 have f3:=dq.lookup
 have f4:=dq.bind (.ref a)
 have f5:=am_tuple_getattr_none
 have f6:=UD
 have hnm:(["__module__", "__name__", "__qualname__", "__doc__", "__annotations__"]:List Str).contains ("keys":Str)=false:=by decide +kernel
 have hsz:("keys":Str).length+100<=sizeLine:=by rw [sizeLine_eq]; decide +kernel
 unfold getAttr? getAttrBy?
 refine wpAny_bind (wpAny_mkText (wpAny_bind (wpAny_attempt ?_)))
 unfold getAttrBy
 repeat (any_goals (first | assumption | exact hT _ | ((with_reducible show wpAny _ _ (call (c6 "tuple.__getattribute__") _ _) _ _ _); refine call_meets dq (hT _) am_entry_tuple_getattribute (F.args_tuple_getattribute_2 _ _) (meets_getattribute_miss_tuple a xs k sl "keys" _ f6 hnm hsz) ⟨hx,hh,fun h' tk' e hx'=>?_⟩) | wp_step))
 obtain ⟨t',u',he⟩:=hx'.there
 show wpAny _ _ (getattributeRaised _ _ _ _ _ _ _) _ _ _
 unfold getattributeRaised
 repeat (any_goals (first | assumption | wp_step))
 exact h h' tk' hx'.keeps
theorem vm:entryFor table "dict.update.loop"=some Builtin.«dict.update.loop»:=entryFor_of_tree (by kernel_rfl)
theorem ja:plainId "dict.update.loop"=true:=by decide +kernel
def Kc (h:Heap) (v key val:Value):Prop:=∃ p o n,v=.ref p/\h.get? p=some o/\o.cls=.type "tuple"/\o.data=.seq #[key,val] n
theorem qab {R:Result->Shared->Prop} {d t:Addr} (hh:A.in1.handled=none) (hdt:d≠t) (hdi:d≠it) (hti:t≠it):∀ (n i:Nat) (s:Shared) (kvs:List (Key×Value)) (ps:List (Key×Value×Value)),items.size - i=n->i<=items.size ->
  s.heap.IsTupleIter it t i->s.heap.IsTuple t items->s.heap.DictOf (qQ prog w) d kvs->ps.length=n->(∀ j p,ps[j]?=some p->∃ v,items[i+j]?=some v/\yO p.1 p.2.1=true/\Kc s.heap v p.2.1 p.2.2)->kvs.length+n<=sizeLine ->
  (∀ h' tk,h'.DictOf (qQ prog w) d (ps.foldl (fun l p=>stored l p.1 p.2.2) kvs)->(∀ b o,b≠d->b≠it->s.heap.get? b=some o->h'.get? b=some o)->R (.ok (.ret .none)) { s with heap:=h',toks:=tk }) ->
  codeAny (model prog w) A (.builtin "dict.update.loop" ⟨[.ref d,.ref it,rawInt i,.none],[]⟩) R s:=by
 intro n
 induction n with
 | zero=>
  intro i s kvs ps hn hi st ht hd hl hp hz hR
  have e:ps=[]:=dL.mp hl
  subst e
  refine codeAny_builtin vm ?_
  rw [aQ ja _]
  show wpAny _ A.in1 (pyNext (.ref it) >>= _) _ _ s
  refine wpAny_bind (wpAny_pyNext_tuple_end hh st ht (by simp; omega) fun h' eb=>?_)
  show wpAny _ A.in1 (ret cz) _ _ _
  refine wpAny_pure (hR h' s.toks ?_ fun b o _ h2 e=>eb b o h2 e)
  obtain ⟨o,es,ep,ho,r⟩:=hd
  exact ⟨o,es,ep,eb d o hdi ho,r⟩
 | succ n ih=>
  intro i s kvs ps hn hi st ht hd hl hp hz hR
  cases ps with
  | nil=>simp at hl
  | cons p ps=>
   obtain ⟨v,hv,hk,q,oq,nq,rfl,hq,hqc,hqd⟩:=hp 0 p rfl
   obtain ⟨od,es,ep,hod,hdx,hrest⟩:=id hd
   have nqd:q≠d:=fun z=>by
    subst z
    rw [hq] at hod; cases hod
    rw [hrest.1] at hqd; cases hqd
   obtain ⟨oi,hoi,hic,hid⟩:=id st
   have nqi:q≠it:=fun z=>by
    subst z
    rw [hq] at hoi; cases hoi
    rw [hid] at hqd; cases hqd
   refine codeAny_builtin vm ?_
   rw [aQ ja _]
   show wpAny _ A.in1 (pyNext (.ref it) >>= _) _ _ s
   refine wpAny_bind (wpAny_pyNext_tuple_item st ht (x:=.ref q) (by simpa using hv) fun h' st' sb=>?_)
   have hq':h'.get? q=some oq:=(sb.2 q nqi).trans hq
   have hTq:d6 { s with heap:=h' } (.ref q) "tuple":=⟨oq,hq',hqc⟩
   have hd':h'.DictOf (qQ prog w) d kvs:=by
    obtain ⟨o,es,ep,ho,r⟩:=hd
    exact ⟨o,es,ep,(sb.2 d hdi).trans ho,r⟩
   have ht':h'.IsTuple t items:=by
    obtain ⟨o,ho,r⟩:=ht
    exact ⟨o,(sb.2 t hti).trans ho,r⟩
   dsimp only
   refine wpAny_bind (wpAny_holding (wpAny_bind ?_))
   refine wpAny_tryCatch ?_
   unfold Builtin.Dict.pairItems
   refine wpAny_bind (wpAny_typeOf hTq ?_)
   rw [if_pos (by decide)]
   refine wpAny_bind (wpAny_seqItems hq' hqd (wpAny_pure ?_))
   show wpAny _ A.in1 (holding [p.2.1,p.2.2] (dictSet d p.2.1 p.2.2)) _ _ _
   refine wpAny_holding (wpAny_dictSet_pairs (knd:=qQ prog w) hk hd' (fun h2 hd2 sb2=>?_) (by omega))
   have keep:∀ b o,b≠d->b≠it->s.heap.get? b=some o->h2.get? b=some o:=fun b o n1 n2 e=>(sb2.2 b n1).trans ((sb.2 b n2).trans e)
   have hlen:(stored kvs p.1 p.2.2).length<=kvs.length+1:=by
    unfold stored
    split <;> simp
   refine wpAny_pure ⟨plainId_quiet ja _,?_⟩
   have ec:rawInt ((i:Int)+1)=rawInt ((i+1:Nat):Int):=by push_cast; rfl
   rw [ec]
   refine ih (i+1) _ (stored kvs p.1 p.2.2) ps (by omega) (by omega) ?_ ?_ hd2 (by simpa using hl) (fun j p' e=>?_) (by omega) fun h3 tk hd3 k3=>?_
   ·obtain ⟨o,e,r⟩:=st'
    exact ⟨o,(sb2.2 it (aU hdi)).trans e,r⟩
   ·obtain ⟨o,e,r⟩:=ht'
    exact ⟨o,(sb2.2 t (aU hdt)).trans e,r⟩
   ·obtain ⟨v',hv',hk',q',oq',nq',rfl,hq2,hqc2,hqd2⟩:=hp (j+1) p' (by simpa using e)
    refine ⟨.ref q',by rw [show i+1+j=i+(j+1) by omega]; exact hv',hk',q',oq',nq',rfl,keep q' oq' (fun z=>?_) (fun z=>?_) hq2,hqc2,hqd2⟩
    ·subst z
     rw [hq2] at hod; cases hod
     rw [hrest.1] at hqd2; cases hqd2
    ·subst z
     rw [hq2] at hoi; cases hoi
     rw [hid] at hqd2; cases hqd2
   ·exact hR h3 tk hd3 fun b o n1 n2 e=>k3 b o n1 n2 (keep b o n1 n2 e)
theorem zC {t:Addr} {ps:List (Key×Value×Value)} {Q:Value->Shared->Prop} (hh:A.handled=none) {ot:Obj} {nt:Nat} (hot:s.heap.get? t=some ot) (hotc:ot.cls=.type "tuple") (hotd:ot.dict=none) (hots:ot.data=.seq items nt)
  (hl:ps.length=items.size) (hp:∀ (j:Nat) (p:Key×Value×Value),ps[j]?=some p->∃ v,items[j]?=some v/\yO p.1 p.2.1=true/\Kc s.heap v p.2.1 p.2.2) (hz:items.size<=sizeLine)
  (h:∀ h' tk,h'.DictOf (qQ prog w) s.heap.objs.size (ps.foldl (fun l p=>stored l p.1 p.2.2) [])->(∀ b o,s.heap.get? b=some o->h'.get? b=some o)->Q (.ref s.heap.objs.size) { s with heap:=h',toks:=tk }) :
  wpAny (model prog w) A (call (.type "dict") [.ref t]) Q E s:=by
 refine callType_codes (Q₁:=fun obj s₁=>obj=.ref s.heap.objs.size/\s₁={ s with heap:=s.heap.push { cls:=.type "dict",data:=.dict #[] } }) F.kt_called_dict (F.kt_typeCall_dict_1 _) F.entry_dict_init (kt_code_dict_new _ ⟨rfl,rfl⟩) ?_
 rintro obj s₁ ⟨rfl,rfl⟩
 have hnew:(s.heap.push { cls:=.type "dict",data:=.dict #[] }).DictOf (qQ prog w) s.heap.objs.size []:=fh s.heap
 refine ⟨hnew.typeIs,F.args_dict_init_2 _ _,?_⟩
 unfold Builtin.«dict.__init__»
 refine wpAny_bind ?_
 unfold Builtin.Dict.selfAndRest
 refine wpAny_bind (wpAny_notOrdered_dict hnew.typeIs ?_)
 show wpAny _ _ (pure (s.heap.objs.size,[bO t])) _ _ _
 refine wpAny_pure ?_
 show wpAny _ _ (cQ "dict.__init__" s.heap.objs.size (.ref t) [] .none) _ _ _
 unfold cQ
 have hot':(s.heap.push { cls:=.type "dict",data:=.dict #[] }).get? t=some ot:=ae _ hot
 have hlt:t < s.heap.objs.size:=ap hot
 refine wpAny_bind (wpAny_typeOf (T := "tuple") ⟨ot,hot',hotc⟩ ?_)
 rw [if_pos (by decide)]
 refine wpAny_bind (gC (by exact hh) hot' hotc hots hotd fun h1 tk1 k1=>?_)
 rw [if_pos (show (none:Option Value).isNone=true from rfl)]
 refine wpAny_bind (wpAny_rule ?_)
 have ht1:h1.get? t=some ot:=k1 _ _ hot'
 have hd1:h1.DictOf (qQ prog w) s.heap.objs.size []:=by
  obtain ⟨o,es,ep,ho,r⟩:=hnew
  exact ⟨o,es,ep,k1 _ _ ho,r⟩
 have htup:h1.IsTuple t items:=⟨ot,ht1,hotc,nt,hots⟩
 refine wpAny_bind (wpAny_pyIter_tuple (s:={ s with heap:=h1,toks:=tk1 }) htup ?_)
 have hs1:s.heap.objs.size < h1.objs.size:=let ⟨o,es,ep,ho,r⟩:=hd1; ap ho
 have up:∀ b o,s.heap.get? b=some o->(h1.push { cls:=.type "tuple_iterator",data:=.fields #[.ref t,.int 0 0] }).get? b=some o:=fun b o e=>ae _ (k1 _ _ (ae _ e))
 refine wpAny_pure ⟨plainId_quiet ja _,?_⟩
 refine qab (items:=items) (t:=t) (A:=A.in1) (show A.in1.in1.handled=none from hh) (cf hlt) (aD hs1) (aD (cV hlt hs1)) items.size 0 _ [] ps (by omega) (bq _) ⟨_,ak _ rfl,rfl,rfl⟩ ?_ ?_ hl (fun j p e=>?_) (by simpa using hz) fun h2 tk2 hd2 k2=>⟨rfl,h h2 tk2 hd2 fun b o e=>?_⟩
 ·exact ⟨ot,ae _ ht1,hotc,nt,hots⟩
 ·obtain ⟨o,es,ep,ho,r⟩:=hd1
  exact ⟨o,es,ep,ae _ ho,r⟩
 ·obtain ⟨v,hv,hk,q,oq,nq,rfl,hq,r⟩:=hp j p e
  exact ⟨.ref q,by simpa using hv,hk,q,oq,nq,rfl,up q oq hq,r⟩
 ·have hb:=ap e
  exact k2 b o (aD hb) (aD (cV hb hs1)) (up b o e)
end
noncomputable def Qr:D->Option Key
 | .int i=>some (.inl i)
 | .str x=>some (.inr x)
 | _=>none
noncomputable def Jz (kvs:List (Key×D)) (k:Key) (d:D):List (Key×D):=if kvs.any (fun p=>decide (p.1=k)) then kvs.map fun p=>if p.1=k then (p.1,d) else p else kvs++[(k,d)]
noncomputable def qac:D->Option (Key×D)
 | .tup [k,v]=>(Qr k).map fun k=>(k,v)
 | _=>none
noncomputable def uE:List D->Option (List (Key×D))
 | []=>some []
 | d::ds=>match qac d,uE ds with
  | some p,some ps=>some (p::ps)
  | _,_=>none
noncomputable def UE:D->Out D
 | .tup ds=>match uE ds with
  | some ps=>.ok (.dct (ps.foldl (fun l p=>Jz l p.1 p.2) []))
  | none=>.bad
 | _=>.bad
variable {F:Hp}
theorem IsK.any {k:Key}:∀ {kv:List (Key×V)} {ks:List (Key×D)},IsK K F kv ks->(kv.any fun p=>decide (p.1=k))=(ks.any fun p=>decide (p.1=k))
 | _,_,.nil=>rfl
 | _,_,.cons h t=>by rw [cK,cK,IsK.any t]
variable {d:D} {v:V}
theorem IsK.repl {k:Key} (i:Is K F v d):∀ {kv:List (Key×V)} {ks:List (Key×D)},IsK K F kv ks->IsK K F (kv.map fun p=>if p.1=k then (p.1,v) else p) (ks.map fun p=>if p.1=k then (p.1,d) else p)
 | _,_,.nil=>.nil
 | _,_,.cons (k:=k') h t=>by
  rw [aG,aG]
  by_cases e:k'=k
  ·simp only [e,if_true]; exact .cons i (IsK.repl i t)
  ·simp only [e,if_false]; exact .cons h (IsK.repl i t)
theorem IsK.snoc {k:Key} (i:Is K F v d):∀ {kv:List (Key×V)} {ks:List (Key×D)},IsK K F kv ks->IsK K F (kv++[(k,v)]) (ks++[(k,d)])
 | _,_,.nil=>.cons i .nil
 | _,_,.cons h t=>.cons h (IsK.snoc i t)
variable {kv:List (Key×V)}
theorem IsK.put {k:Key} {ks:List (Key×D)} (h:IsK K F kv ks) (i:Is K F v d):IsK K F (xL kv k v) (Jz ks k d):=by
 unfold xL Jz
 rw [h.any]
 by_cases e:(ks.any fun p=>decide (p.1=k))=true
 ·rw [if_pos e,if_pos e]; exact IsK.repl i h
 ·rw [if_neg e,if_neg e]; exact IsK.snoc i h
theorem Qs:∀ {pv:List (Key×V)} {ps:List (Key×D)} {kv:List (Key×V)} {ks:List (Key×D)},IsK K F pv ps->IsK K F kv ks->IsK K F (pv.foldl (fun l p=>xL l p.1 p.2) kv) (ps.foldl (fun l p=>Jz l p.1 p.2) ks)
 | _,_,_,_,.nil,h=>h
 | _,_,_,_,.cons i t,h=>by
  rw [bW,bW]
  exact Qs t (h.put i)
def qg4 (p:Key×V) (q:Key×Value×Value):Prop:=p.1=q.1/\RelV p.2 q.2.2
theorem Vo:∀ {pv:List (Key×V)} {tr:List (Key×Value×Value)} {kv:List (Key×V)} {vs:List (Key×Value)},Paired qg4 pv tr->KV kv vs->KV (pv.foldl (fun l p=>xL l p.1 p.2) kv) (tr.foldl (fun l p=>stored l p.1 p.2.2) vs)
 | _,_,_,_,.nil,h=>h
 | _,_,_,_,.cons r t,h=>by
  rw [bW,bW]
  refine Vo t ?_
  rw [r.1]
  exact h.put _ r.2
theorem Qt:∀ {pv:List (Key×V)} {kv:List (Key×V)},(pv.foldl (fun l p=>xL l p.1 p.2) kv).length<=kv.length+pv.length
 | [],kv=>aB _
 | p::pv,kv=>by
  have h1:=@Qt pv (xL kv p.1 p.2)
  have h2:=uL kv p.1 p.2
  rw [bW,ao]
  omega
variable {X:Cx} {pins:List (Addr×Obj)} {σ:St} {H:Hp} {u:Value}
section
theorem xw {k:Key} (i:Is C.K F v d) (r:RelV v u) (e:Qr d=some k):yO k u=true:=by
 cases d with
 | int z=>cases i; cases e; obtain ⟨t,rfl⟩:=r; exact JA z t
 | str z=>cases i; cases e; obtain ⟨t,rfl⟩:=r; exact JB z t
 | _=>cases e
theorem Qu (hK:C.K=X.K) (I:Inv X pins σ H s) (sb:Same F H):∀ {vs:List V} {us:List Value} {ds:List D} {ps:List (Key×D)},IsL C.K F vs ds->Vals vs us->uE ds=some ps ->
  ∃ (pv:List (Key×V)) (tr:List (Key×Value×Value)),IsK C.K F pv ps/\Paired qg4 pv tr/\tr.length=us.length/\pv.length=us.length/\∀ (j:Nat) (p:Key×Value×Value),tr[j]?=some p->∃ v,us[j]?=some v/\yO p.1 p.2.1=true/\Kc s.heap v p.2.1 p.2.2
 | _,_,_,_,.nil,.nil,e=>by cases e; exact ⟨[],[],.nil,.nil,rfl,rfl,fun j p e=>by simp at e⟩
 | _,_,_,_,.cons (d:=d) (ds:=ds) i t,.cons (b:=u) r rs,e=>by
  unfold uE at e
  cases q1:qac d with
  | none=>rw [q1] at e; cases e
  | some kd=>
   cases q2:uE ds with
   | none=>rw [q1,q2] at e; cases e
   | some rest=>
    rw [q1,q2] at e
    cases e
    obtain ⟨pv,tr,h1,h2,h3,h3',h4⟩:=Qu hK I sb t rs q2
    unfold qac at q1
    split at q1
    ·rename_i dk dv
     obtain ⟨k,hk,rfl⟩:=aO.mp q1
     cases i with
     | @tup a xs _ hq il=>
      cases il with
      | @cons xk _ xr _ ik il2=>
       cases il2 with
       | @cons xv _ xr2 _ iv il3=>
        cases il3
        cases r
        obtain ⟨its,rv,⟨o,ho,hc,n,hd⟩,_⟩:=I.tuple (show SqT X.K H a [xk,xv] by rw [<-hK]; exact qM sb hq)
        cases rv with
        | @cons _ uk _ _ rk rv2=>
         cases rv2 with
         | @cons _ uv _ _ rv3 rv4=>
          cases rv4
          refine ⟨(k,xv)::pv,(k,uk,uv)::tr,.cons iv h1,.cons ⟨rfl,rv3⟩ h2,by simp [h3],by simp [h3'],fun j p e=>?_⟩
          cases j with
          | zero=>
           simp at e
           subst e
           exact ⟨_,rfl,xw ik rk hk,a,o,n,rfl,ho,hc,hd⟩
          | succ j=>simpa using h4 j p (by simpa using e)
    ·cases q1
theorem qcv (hK:C.K=X.K) (hc:X.calm=true):Qk X C .fr (.type "dict") UE:=by
 intro pins s σ H xs us Q I r h
 obtain ⟨x,F,dx,rfl,sb,tx,po⟩:=h
 cases dx <;> try exact po.elim
 rename_i ds
 unfold UE at po
 cases q:uE ds with
 | none=>simp only [q] at po; exact po.elim
 | some ps=>
  simp only [q] at po
  obtain ⟨a,vs,rfl,hq,t⟩:=tx.tup sb
  obtain ⟨u,rfl,ru⟩:=uB r
  cases ru
  have hq':SqT X.K H a vs:=by rw [<-hK]; exact hq
  obtain ⟨its,rv,⟨o,ho,hcl,n,hd⟩,hz⟩:=I.tuple hq'
  obtain ⟨o2,ho2,hdn⟩:=I.tupleN hq'
  rw [ho] at ho2; cases ho2
  obtain ⟨pv,tr,h1,h2,h3,h3',h4⟩:=Qu hK I sb t rv q
  have hlen:=rv.length
  refine zC (ps:=tr) (I.ok.hd hc) ho hcl hdn hd (by simp [h3]) (fun j p e=>?_) (by simp; omega) fun h' tk hd' kp=>?_
  ·obtain ⟨v,e1,e2⟩:=h4 j p e
   exact ⟨v,by simpa using e1,e2⟩
  ·have hp:H s.heap.objs.size=none:=I.hok.fresh (aB _)
   obtain ⟨s2,c2,hF⟩:=kX (u:=.dK (pv.foldl (fun l p=>xL l p.1 p.2) [])) sb hp
   have hl:(pv.foldl (fun l p=>xL l p.1 p.2) ([]:List (Key×V))).length<=sizeLine:=by
    have:=@Qt pv []
    simp at this
    omega
   have hsys:(s.heap.objs.size == sysModules)=false:=beq_eq_false_iff_ne.mpr (cf I.big)
   refine ⟨.ref s.heap.objs.size,_,I.laid (o:=.dK (pv.foldl (fun l p=>xL l p.1 p.2) [])) (t':=tk) kp (aB _) (YF hl hsys (Vo h2 .nil) hd'),rfl,po _ F _ s2 c2 ⟨_,rfl,hp,hF,_,qr,Qs h1 .nil⟩⟩
noncomputable def qad (kvs:List (Key×D)) (k:Key):Bool:=kvs.any fun p=>decide (p.1=k)
noncomputable def inA:D->D->Out D
 | x,.dct kvs=>match Qr x with
  | some k=>.ok (.bl (qad kvs k))
  | none=>.bad
 | x,y=>qfw x y
noncomputable def Qv:D->D->Out D
 | x,.dct kvs=>match Qr x with
  | some k=>.ok (.bl (!qad kvs k))
  | none=>.bad
 | x,y=>Uu x y
theorem WE {ks:List (Key×D)} {k:Key} (h:IsK K F kv ks):(KQ kv k).isSome=qad ks k:=by
 rw [<-Qh,h.any]; rfl
theorem qfA {k:Key} (h:TopIs C.K F H v d) (e:Qr d=some k):v=kV k:=by
 cases d with
 | int z=>cases e; exact h.int
 | str z=>cases e; exact h.str.1
 | _=>cases e
theorem qer (hK:C.K=X.K) (hu:X.A.units+64 < cLine):OpD X C .sh (compareOp .In) inA:=by
 intro pins s σ H x y v u Q I rx ry h
 obtain ⟨F,dx,dy,sb,tx,ty,po⟩:=h
 by_cases hd:∃ kvs,dy=.dct kvs
 ·obtain ⟨kvs,rfl⟩:=hd
  cases q:Qr dx with
  | none=>unfold inA at po; simp only [q] at po; exact po.elim
  | some k=>
   unfold inA at po
   simp only [q] at po
   obtain ⟨a,kv,rfl,hH,ik⟩:=ty.dct sb
   cases ry
   have ex:=qfA tx q
   subst ex
   refine qhB (by omega) I (DGet.k (k:=k) hH) rx fun s' I'=>⟨.bl _,H,I',rfl,?_⟩
   rw [WE ik]
   exact po _ F H sb .refl (.bl _)
 ·have e:inA dx dy=qfw dx dy:=by
   cases dy <;> first | rfl | exact absurd ⟨_,rfl⟩ hd
  rw [e] at po
  exact qgd hK hu pins s σ H x y v u Q I rx ry ⟨F,dx,dy,sb,tx,ty,po⟩
theorem yu (hK:C.K=X.K) (hu:X.A.units+64 < cLine):OpD X C .sh (compareOp .NotIn) Qv:=by
 intro pins s σ H x y v u Q I rx ry h
 obtain ⟨F,dx,dy,sb,tx,ty,po⟩:=h
 by_cases hd:∃ kvs,dy=.dct kvs
 ·obtain ⟨kvs,rfl⟩:=hd
  cases q:Qr dx with
  | none=>unfold Qv at po; simp only [q] at po; exact po.elim
  | some k=>
   unfold Qv at po
   simp only [q] at po
   obtain ⟨a,kv,rfl,hH,ik⟩:=ty.dct sb
   cases ry
   have ex:=qfA tx q
   subst ex
   refine qb2 (by omega) I (DGet.k (k:=k) hH) rx fun s' I'=>⟨.bl _,H,I',rfl,?_⟩
   rw [WE ik]
   exact po _ F H sb .refl (.bl _)
 ·have e:Qv dx dy=Uu dx dy:=by
   cases dy <;> first | rfl | exact absurd ⟨_,rfl⟩ hd
  rw [e] at po
  exact GF hK hu pins s σ H x y v u Q I rx ry ⟨F,dx,dy,sb,tx,ty,po⟩
end
theorem qcw (t:SetTable) (es:Array (Int×Value)) (h:Int) (x:Value):(layNew t es h x).2.1.led=t.led:=by
 unfold layNew
 cases t.freeSlot h with
 | none=>rfl
 | some p=>
  obtain ⟨sl,wd⟩:=p
  show (dH (t.put sl).1 _).led=t.led
  unfold dH
  split <;> rfl
theorem Xn {t:SetTable} (es:Array (Int×Value)) (h:Int) (x:Value) (e:t.plain=false):(layNew t es h x).2.1.plain=false:=by
 unfold layNew
 cases t.freeSlot h with
 | none=>rfl
 | some p=>
  obtain ⟨sl,wd⟩:=p
  show (dH (t.put sl).1 _).plain=false
  unfold dH
  split
  ·exact e
  ·rfl
theorem qcx {m f v:Nat} {l p:Bool} {hs:Array Int} {t:SetTable} {o:Array Nat} (h:fE m f v l p hs=some (t,o)):t.led=l/\t.plain=p:=by
 unfold fE at h
 cases e:SetTable.layClean m hs with
 | none=>
  rw [e] at h
  cases h
 | some ow=>
  rw [e] at h
  have h2:=congrArg Prod.fst (bc.inj h)
  subst h2
  exact ⟨rfl,rfl⟩
theorem Vp (t:SetTable) (es:Array (Int×Value)) (n:Nat):(relayAll t es n).2.1.led=t.led/\(t.plain=false->(relayAll t es n).2.1.plain=false):=by
 unfold relayAll
 cases e:t.relaid (es.map (·.1)) n with
 | none=>exact ⟨rfl,fun _=>rfl⟩
 | some q=>
  obtain ⟨t',o⟩:=q
  have hk:=qcx (show fE _ _ _ _ _ _=some (t',o) from e)
  dsimp only
  split
  ·exact ⟨hk.1,fun z=>hk.2.trans z⟩
  ·exact ⟨rfl,fun _=>rfl⟩
noncomputable def vi (ks:List Str) (x:Str):List Str:=if x∈ks then ks else ks++[x]
noncomputable def jW (es:Array (Int×Value)) (ep:Nat) (t:SetTable):Obj:={ cls:=.type "set",dict:=none,data:=.set es ep t,slots:=#[] }
structure SetD (prog:Program) (w:World) (es:Array (Int×Value)) (t:SetTable) (ks:List Str):Prop where
 el:ElemsOf (bf prog w) es.toList
 perm:(es.toList.map fun e=>strOf e.2).Perm ks
 nd:ks.Nodup
 bd:es.size < scanBound
 fits:t.fits es.size=true
 led:t.led=!(w.params.followText "set-order")
 plain:ks≠[]->t.plain=false
def SetS (prog:Program) (w:World) (h:Heap) (a:Addr) (ks:List Str):Prop:=∃ es ep t,h.get? a=some (jW es ep t)/\SetD prog w es t ks
variable {ks:List Str} {y:Str} {es:Array (Int×Value)} {h:Heap} {ep:Nat}
section
theorem Xo {l:List (Int×Value)} (h:ElemsOf (bf prog w) l) {e:Int×Value} (he:e∈l):∃ x t,e.2=.str x t:=by
 obtain ⟨⟨k,hk,_⟩,_⟩:=h e he
 obtain ⟨t,ht⟩:=Value.isStrOf_shape hk
 exact ⟨k,t,ht⟩
theorem isS {t:Tok}:(bf prog w).is x (.str y t)=decide (x=y):=by
 have h:(bf prog w).is y (.str y t)=true:=by
  show eL y (.str y t)=true
  simp [eL]
 exact KeyKind.is_eq_decide h x
theorem SetD.mem {t:SetTable} (h:SetD prog w es t ks):x∈ks↔∃ e∈es.toList,(bf prog w).is x e.2=true:=by
 rw [<-h.perm.mem_iff,ah]
 constructor
 ·rintro ⟨e,he,z⟩
  obtain ⟨y,t,hy⟩:=Xo h.el he
  refine ⟨e,he,?_⟩
  rw [hy] at z ⊢
  rw [isS]
  exact decide_eq_true z.symm
 ·rintro ⟨e,he,z⟩
  obtain ⟨y,t,hy⟩:=Xo h.el he
  refine ⟨e,he,?_⟩
  rw [hy] at z ⊢
  rw [isS] at z
  exact (of_decide_eq_true z).symm
theorem SetD.size {t:SetTable} (h:SetD prog w es t ks):es.size=ks.length:=by
 have e:=h.perm.length_eq
 simpa using e
theorem qbj {es':Array (Int×Value)} {t t':SetTable} (ho:h.get? a=some (jW es ep t)):(h.update a (fG es' t')).get? a=some (jW es' (ep+1) t'):=by
 have e:=bh (fG es' t') ho (by rw [putSet_of (o:=jW es ep t) es' t' rfl]; rfl)
 rw [putSet_of (o:=jW es ep t) es' t' rfl] at e
 exact e
theorem SetD.more {es1:Array (Int×Value)} {t t1:SetTable} {tk:Tok} (h:SetD prog w es t ks) (nx:x∉ks) (hr:ks.length+1 < scanBound)
  (hp:es1.toList.Perm (es.toList++[((bf prog w).hash x,.str x tk)])) (hf:t1.fits es1.size=true) (hl:t1.led=t.led) (hq:t1.plain=false):SetD prog w es1 t1 (vi ks x):=by
 have ex:vi ks x=ks++[x]:=if_neg nx
 have hz:es1.size=ks.length+1:=by
  rw [<-bH,hp.length_eq,af,bH,h.size]
  rfl
 rw [ex]
 refine ⟨(h.el.push (by rw [isS]; exact decide_eq_true rfl) rfl).perm hp,?_,?_,?_,hf,hl.trans h.led,fun _=>hq⟩
 ·refine (hp.map _).trans ?_
  rw [cu]
  exact h.perm.append (cB _)
 ·exact bV.mpr ⟨h.nd,by simp,fun a ha b hb=>by rw [au.mp hb]; exact fun z=>nx (z ▸ ha)⟩
 ·rw [hz]
  exact hr
theorem qcy {x:Str} {tk:Tok} {Q:Bool->Shared->Prop} (hS:SetS prog w s.heap a ks) (hr:ks.length+1 < scanBound)
  (h:∀ h' b,bL a s.heap h'->SetS prog w h' a (vi ks x)->Q b { s with heap:=h' }):wpAny (model prog w) A (setAddHashed a (.str x tk) ((bf prog w).hash x)) Q E s:=by
 obtain ⟨es,ep,t,ho,d⟩:=hS
 have hk:(bf prog w).is x (.str x tk)=true:=by rw [isS]; exact decide_eq_true rfl
 unfold setAddHashed setAddHashedIn
 refine wpAny_holding (wpAny_bind (wpAny_setState_of ho rfl d.fits ?_))
 dsimp only
 rw [byScan_of rfl d.bd d.el,if_pos rfl]
 unfold setAddByScan
 refine wpAny_bind (wpAny_bind (wpAny_rule (wpAny_bind (wpAny_setScan_of hk ho rfl d.fits d.el ?_))))
 cases hq:es.toList.findIdx? (fun e=>(bf prog w).is x e.2) with
 | some j=>
  obtain ⟨hj,hp,_⟩:=List.findIdx?_eq_some_iff_getElem.mp hq
  have hx:x∈ks:=d.mem.mpr ⟨_,ce hj,hp⟩
  have q:=h s.heap false (Heap.SameBut.refl a s.heap) ⟨es,ep,t,ho,by rw [show vi ks x=ks from if_pos hx]; exact d⟩
  dsimp only
  exact wpAny_pure (wpAny_pure q)
 | none=>
  have hx:x∉ks:=fun z=>by
   obtain ⟨e,he,q⟩:=d.mem.mp z
   have:=List.findIdx?_eq_none_iff.mp hq e he
   rw [q] at this
   cases this
  dsimp only
  have hp:=layNew_perm t es ((bf prog w).hash x) (.str x tk)
  have hf:=layNew_fits t es ((bf prog w).hash x) (.str x tk)
  have hl:=qcw t es ((bf prog w).hash x) (.str x tk)
  have hn:=fun e=>Xn (t:=t) es ((bf prog w).hash x) (.str x tk) e
  generalize layNew t es ((bf prog w).hash x) (.str x tk)=L at hp hf hl hn ⊢
  obtain ⟨es1,t1,wd,gv⟩:=L
  dsimp only at hp hf hl hn ⊢
  rw [Array.toList_push] at hp
  have tail:∀ t2:SetTable,t2.fits es1.size=true->t2.led=t.led->t2.plain=false->wpAny (model prog w) A (do
    storeSet a es1 t2
    if (!wd&&t2.tooFull)=true then do
      (match (relayAll t2 es1 (cR es1.size)).2.2 with | true=>rule "set.scan.the-table-gave-way" | false=>pure ())
      storeSet a (relayAll t2 es1 (cR es1.size)).1 (relayAll t2 es1 (cR es1.size)).2.1
      pure (some true)
     else pure (some true)) (fun r s'=>∃ h',s'={ s with heap:=h' }/\r=some true/\bL a s.heap h'/\SetS prog w h' a (vi ks x)) E s:=by
   intro t2 f2 l2 p2
   have d2:=d.more hx hr hp f2 l2 p2
   refine wpAny_bind (wpAny_storeSet_of ho rfl ?_ (fits_of_scanBound d2.bd))
   have ho1:=qbj (es':=es1) (t':=t2) ho
   have sb:=bI s.heap a (fG es1 t2)
   split
   ·have rp:=relayAll_perm t2 es1 (cR es1.size)
    have rf:=relayAll_fits t2 es1 (cR es1.size)
    have rk:=Vp t2 es1 (cR es1.size)
    generalize relayAll t2 es1 (cR es1.size)=R at rp rf rk ⊢
    obtain ⟨es2,t3,g2⟩:=R
    dsimp only at rp rf rk ⊢
    have d3:=d.more hx hr (rp.trans hp) rf (rk.1.trans l2) (rk.2 p2)
    refine wpAny_bind ?_
    have go:wpAny (model prog w) A (storeSet a es2 t3 >>= fun _=>pure (some true)) (fun r s'=>∃ h',s'={ s with heap:=h' }/\r=some true/\bL a s.heap h'/\SetS prog w h' a (vi ks x)) E { s with heap:=s.heap.update a (fG es1 t2) }:=
     wpAny_bind (wpAny_storeSet_of ho1 rfl (wpAny_pure ⟨_,rfl,rfl,sb.trans (bI _ a _),es2,_,t3,qbj ho1,d3⟩) (fits_of_scanBound d3.bd))
    cases g2
    ·exact wpAny_pure go
    ·exact wpAny_rule go
   ·exact wpAny_pure ⟨_,rfl,rfl,sb,es1,_,t2,ho1,d2⟩
  have fin:∀ (r:Option Bool) (s':Shared),(∃ h',s'={ s with heap:=h' }/\r=some true/\bL a s.heap h'/\SetS prog w h' a (vi ks x)) ->
    wpAny (model prog w) A (match r with | some added=>pure added | none=>setAddHashedIn a (.str x tk) ((bf prog w).hash x) 99999) Q E s':=by
   rintro r s' ⟨h',rfl,rfl,sb,hS⟩
   exact wpAny_pure (h h' true sb hS)
  have gw:∀ (b:Bool) {s₁:Shared} {Q':Unit->Shared->Prop},Q' () s₁->wpAny (model prog w) A (match b with | true=>rule "set.scan.the-table-gave-way" | false=>pure ()) Q' E s₁:=fun b s₁ Q' q=>by
   cases b
   ·exact wpAny_pure q
   ·exact wpAny_rule q
  refine wpAny_bind (gw _ ?_)
  cases e1:t1.plain with
  | true=>
   rw [if_pos rfl,hashByValue_scannable 8 (x:=.str x tk) rfl]
   refine wpAny_bind (wpAny_pure ?_)
   show wpAny _ _ (storeSet a es1 { t1 with plain:=false } >>= _) _ _ _
   exact wpAny_mono (tail { t1 with plain:=false } (SetTable.fits_plain_off hf) hl rfl) fin fun _ _ z=>z
  | false=>
   rw [if_neg (by simp)]
   refine wpAny_bind (wpAny_pure ?_)
   show wpAny _ _ (storeSet a es1 t1 >>= _) _ _ _
   exact wpAny_mono (tail t1 hf hl e1) fin fun _ _ z=>z
end
theorem qae (ks:List Str) (x:Str):(vi ks x).length<=ks.length+1:=by
 unfold vi
 split
 ·omega
 ·rw [af]
  exact aB _
theorem yv:∀ (l ks:List Str),(l.foldl vi ks).length<=ks.length+l.length
 | [],ks=>aB _
 | x::l,ks=>by
  have h1:=yv l (vi ks x)
  have h2:=qae ks x
  rw [bW,ao]
  omega
variable {h':Heap}
theorem SetS.at (hS:SetS prog w h a ks) (k:∀ o,h.get? a=some o->h'.get? a=some o):SetS prog w h' a ks:=
 let ⟨es,ep,t,ho,d⟩:=hS; ⟨es,ep,t,k _ ho,d⟩
variable {n:Nat}
section
variable {R:Result->Shared->Prop} {I:Addr} {fp wr:List Addr} {P:Nat->Value->Prop} {St:Nat->Shared->Prop}
theorem WF {G:Array GenState->Array GenState->Prop} (W:WalksS prog w A.in1 I fp wr G n P St) (S:Addr) (hSf:S∉fp) (ss:List Str) (hn:ss.length=n) (hv:∀ i v,P i v->∃ x t,ss[i]?=some x/\v=.str x t) (hb:n+1 < scanBound) :
  ∀ (k i:Nat) (s:Shared),n - i=k->i<=n->St i s->SetS prog w s.heap S ((ss.take i).foldl vi []) ->
   (∀ s',Moved (S::wr) G s s'->SetS prog w s'.heap S (ss.foldl vi [])->R (.ok (.ret .none)) s')->codeAny (model prog w) A (.builtin "set.update.loop" ⟨[.ref S,.ref I],[]⟩) R s:=by
 have nw:S∉wr:=fun h=>hSf (W.sub _ h)
 have up:∀ b∈wr,b∈S::wr:=fun b hb=>aa _ hb
 intro k
 induction k with
 | zero=>
  intro i s hk hi hst hS hR
  have hin:i=n:=by omega
  subst hin
  refine codeAny_builtin F.entry_set_update_loop ?_
  rw [aQ dM _]; show wpAny _ A.in1 (pyNext (.ref I) >>= _) _ _ s
  refine wpAny_bind (W.done s _ _ hst fun s' hm=>wpAny_pure (hR s' (hm.mono up) ?_))
  rw [List.take_of_length_le (dR hn)] at hS
  exact hS.at fun o e=>hm.heap S o nw e
 | succ k ih=>
  intro i s hk hi hst hS hR
  have hlt:i < n:=by omega
  refine codeAny_builtin F.entry_set_update_loop ?_
  rw [aQ dM _]; show wpAny _ A.in1 (pyNext (.ref I) >>= _) _ _ s
  refine wpAny_bind (W.item i s _ _ hlt hst fun v s' hP hst' hm=>?_)
  obtain ⟨x,t,hx,rfl⟩:=hv i v hP
  have hS':SetS prog w s'.heap S ((ss.take i).foldl vi []):=hS.at fun o e=>hm.heap S o nw e
  show wpAny _ A.in1 (holding [eO x t] (setAdd S (.str x t)) >>= _) _ _ s'
  refine wpAny_bind (wpAny_holding ?_)
  unfold setAdd
  refine wpAny_holding (wpAny_bind ((bf prog w).pyHash (k:=x) (by rw [isS]; exact decide_eq_true rfl) ?_))
  have hroom:((ss.take i).foldl vi []).length+1 < scanBound:=by
   have h1:=yv (ss.take i) []
   rw [eR,bv] at h1
   omega
  refine qcy (s:={ s' with toks:=s'.toks+1 }) hS' hroom fun h' b sb hS2=>?_
  have e2:vi ((ss.take i).foldl vi []) x=(ss.take (i+1)).foldl vi []:=by
   rw [List.take_add_one,hx,eG]
   rfl
  rw [e2] at hS2
  refine wpAny_pure ⟨plainId_quiet dM _,ih (i+1) _ (by omega) hlt (W.frame _ s' _ _ hst' (eC _) fun b hb o e=>?_) hS2 fun s'' hm'' hS''=>?_⟩
  ·rw [sb.2 b fun z:b=S=>hSf (z ▸ hb)]
   exact e
  ·refine hR s'' (Moved.trans W.gtrans ((hm.mono up).then_heap (eC _) fun b o hb e=>?_) hm'') hS''
   rw [sb.2 b fun z:b=S=>hb (z ▸ ai)]
   exact e
end
variable {ss:List Str} {i:Nat}
section
abbrev qes (w:World):Obj:=jW #[] 0 (.fresh 0 0 (!(w.params.followText "set-order")))
theorem Kd (e:h.get? a=some (qes w)):SetS prog w h a []:=
 ⟨_,_,_,e,⟨fun e he=>by simp at he,by simp,cS,by decide,by rfl,rfl,fun z=>absurd rfl z⟩⟩
theorem qcz (a:Value) {Q₁:Value->Shared->Prop} (h:Q₁ (.ref s.heap.objs.size) { s with heap:=s.heap.push (qes w) }) :
  codeAny (model prog w) A (.call (.builtin "set.__new__") ⟨[.type "set",a],[]⟩) (wants Q₁ E) s:=by
 refine codeAny_of_tree ?_; show wpAny _ A.in1 (do checkBuiltinCall "set.__new__" ⟨[.type "set",a],[]⟩; again (.builtin "set.__new__" ⟨[.type "set",a],[]⟩)) _ _ s
 refine wpAny_bind (wpAny_of_eq (PySem.F.newCall_set_1 a) (wpAny_pure ⟨plainId_quiet PySem.F.plain_set_new _,codeAny_builtin PySem.F.entry_set_new ?_⟩)); rw [aQ PySem.F.plain_set_new _]
 unfold Builtin.«set.__new__» Builtin.Frozenset.newClass; have hsub:=sub_set_self; obtain ⟨hp,g,d,tk,os⟩:=s; dsimp only; wp_walk
 refine wpAny_askSetting (wpAny_pure ?_); dsimp only; simp only [newObj]
 exact wpAny_bind (wpAny_alloc (wpAny_pure (wpAny_pure h)))
theorem Vq:isSubtype (.type "tuple") (.type "set")=pure false:=by rw [isSubtype_type]; kernel_rfl
theorem gD:isSubtype (.type "tuple") (.type "frozenset")=pure false:=by rw [isSubtype_type]; kernel_rfl
theorem Xp {vs:List Value} (h:StrsAre vs ss) {v:Value} (e:vs[i]?=some v):∃ x t,ss[i]?=some x/\v=.str x t:=by
 obtain ⟨y,t,e1,e2⟩:=h.item i v e
 exact ⟨y,t,e2,e1⟩
theorem qaf {S l:Addr} {Q:Unit->Shared->Prop} (hh:A.handled=none) (hS:SetS prog w s.heap S []) (hl:s.heap.IsList l items) (hi:StrsAre items.toList ss) (hb:items.size+1 < scanBound) (hne:l≠S)
  (h:∀ h' tk,SetS prog w h' S (ss.foldl vi [])->(∀ b o,b≠S->s.heap.get? b=some o->h'.get? b=some o)->Q () { s with heap:=h',toks:=tk }) :
  wpAny (model prog w) A (bw "set.__init__" S (.ref l)) Q E s:=by
 have hT:s.TypeIs (.ref l) "list":=let ⟨o,e,c,_⟩:=hl; ⟨o,e,c⟩
 unfold bw
 refine wpAny_bind (m:=cC _) ?_
 unfold cC
 refine wpAny_bind (wpAny_isInstance hT PySem.F.sub_list_set ?_)
 refine wpAny_isInstance hT PySem.F.sub_list_frozenset ?_
 rw [if_neg (by decide)]
 refine wpAny_bind (wpAny_typeOf hT ?_)
 rw [if_neg (by decide)]
 refine wpAny_bind (wpAny_pyIter_list hl ?_)
 have hz:s.heap.objs.size≠S:=fun z=>by
  obtain ⟨es,ep,t,ho,_⟩:=hS
  exact bR _ (z ▸ ap ho)
 have hzl:l≠s.heap.objs.size:=by
  obtain ⟨o,e,_⟩:=hl
  exact aD (ap e)
 refine wpAny_bind (wpAny_runValue (WF ((Walks.list (A:=A.in1) hh _ l hzl items).toS) S ?_ ss (by rw [<-hi.length]; simp) (fun i v e=>Xp hi (by rw [bi]; exact e)) hb items.size 0 _ (by omega) (bq _) ⟨⟨_,ak _ rfl,rfl,rfl⟩,hl.push _⟩ ?_ ?_))
 ·intro z
  rcases ac.mp z with z | z
  ·exact hz z.symm
  ·exact hne (au.mp z).symm
 ·exact hS.at fun o e=>ae _ e
 ·intro s' hm hS'
  obtain ⟨h',g',d',tk',os'⟩:=s'
  have eg:g'=s.gens:=hm.gens
  have ed:d'=s.drawn:=hm.drawn
  have eo:os'=s.os:=hm.os
  subst eg ed eo
  refine wpAny_pure (h h' tk' hS' fun b o hb e=>hm.heap b o ?_ (ae _ e))
  intro z
  rcases ac.mp z with z | z
  ·exact hb z
  ·rw [au.mp z] at e
   exact bR _ (ap e)
theorem Xq {S l:Addr} {Q:Unit->Shared->Prop} (hh:A.handled=none) (hS:SetS prog w s.heap S []) (hl:s.heap.IsTuple l items) (hi:StrsAre items.toList ss) (hb:items.size+1 < scanBound) (hne:l≠S)
  (h:∀ h' tk,SetS prog w h' S (ss.foldl vi [])->(∀ b o,b≠S->s.heap.get? b=some o->h'.get? b=some o)->Q () { s with heap:=h',toks:=tk }) :
  wpAny (model prog w) A (bw "set.__init__" S (.ref l)) Q E s:=by
 have hT:s.TypeIs (.ref l) "tuple":=let ⟨o,e,c,_⟩:=hl; ⟨o,e,c⟩
 unfold bw
 refine wpAny_bind (m:=cC _) ?_
 unfold cC
 refine wpAny_bind (wpAny_isInstance hT Vq ?_)
 refine wpAny_isInstance hT gD ?_
 rw [if_neg (by decide)]
 refine wpAny_bind (wpAny_typeOf hT ?_)
 rw [if_neg (by decide)]
 refine wpAny_bind (wpAny_pyIter_tuple hl ?_)
 have hz:s.heap.objs.size≠S:=fun z=>by
  obtain ⟨es,ep,t,ho,_⟩:=hS
  exact bR _ (z ▸ ap ho)
 have hzl:l≠s.heap.objs.size:=by
  obtain ⟨o,e,_⟩:=hl
  exact aD (ap e)
 refine wpAny_bind (wpAny_runValue (WF ((Walks.tuple (A:=A.in1) hh _ l hzl items).toS) S ?_ ss (by rw [<-hi.length]; simp) (fun i v e=>Xp hi (by rw [bi]; exact e)) hb items.size 0 _ (by omega) (bq _) ⟨⟨_,ak _ rfl,rfl,rfl⟩,?_⟩ ?_ ?_))
 ·intro z
  rcases ac.mp z with z | z
  ·exact hz z.symm
  ·exact hne (au.mp z).symm
 ·obtain ⟨o,e,c⟩:=hl
  exact ⟨o,ae _ e,c⟩
 ·exact hS.at fun o e=>ae _ e
 ·intro s' hm hS'
  obtain ⟨h',g',d',tk',os'⟩:=s'
  have eg:g'=s.gens:=hm.gens
  have ed:d'=s.drawn:=hm.drawn
  have eo:os'=s.os:=hm.os
  subst eg ed eo
  refine wpAny_pure (h h' tk' hS' fun b o hb e=>hm.heap b o ?_ (ae _ e))
  intro z
  rcases ac.mp z with z | z
  ·exact hb z
  ·rw [au.mp z] at e
   exact bR _ (ap e)
set_option maxHeartbeats 3200000 in
theorem Ke {l:Addr} {ks:List Str} {Q:Value->Shared->Prop}
  (hup:∀ (A1:Around) (Q1:Unit->Shared->Prop) (E1:Value->Shared->Prop),A1.handled=A.handled->(∀ h' tk,SetS prog w h' s.heap.objs.size ks->(∀ b o,s.heap.get? b=some o->h'.get? b=some o)->Q1 () { s with heap:=h',toks:=tk }) ->
   wpAny (model prog w) A1 (bw "set.__init__" s.heap.objs.size (.ref l)) Q1 E1 { s with heap:=s.heap.push (qes w) })
  (h:∀ h' tk,SetS prog w h' s.heap.objs.size ks->(∀ b o,s.heap.get? b=some o->h'.get? b=some o)->Q (.ref s.heap.objs.size) { s with heap:=h',toks:=tk }) :
  wpAny (model prog w) A (call (.type "set") [.ref l]) Q E s:=by
 have hnew:∀ {Q₁:Value->Shared->Prop},Q₁ (.ref s.heap.objs.size) { s with heap:=s.heap.push (qes w) }->codeAny (model prog w) A.in1 (.call (.builtin "set.__new__") ⟨[.type "set",.ref l],[]⟩) (wants Q₁ E) s:=fun h=>qcz (.ref l) h
 unfold qes jW at hnew hup
 generalize (!(w.params.followText "set-order"))=led at hnew hup
 obtain ⟨c,tl,hmro⟩:=bM.mro
 have hmade:=bM.made
 have hsub:=bM.sub
 refine wpAny_call (codeAny_of_tree ?_); show wpAny _ _ (callAny (.type "set") _) _ _ _
 refine wpAny_pure ⟨Code.quiet_builtin _ (by decide +kernel),codeAny_builtin PySem.F.entry_type_call ?_⟩; rw [Around.under_plain (weight_type_call_type "set" [.ref l] []) rfl]
 have h1:=bM.notType
 have h2:=bM.canCreate
 have hct:=PySem.F.typeCall_set_1 (.ref l)
 repeat (any_goals (first | assumption | wp_step))
 refine codeAny_mono (hnew (Q₁:=fun obj s₁=>obj=.ref s.heap.objs.size/\s₁={ s with heap:=s.heap.push { cls:=.type "set",dict:=none,data:=.set #[] 0 (.fresh 0 0 led) } }) ⟨rfl,rfl⟩) fun r s₁ hr=>?_
 cases r with
 | error e=>exact hr
 | ok fl=>
  cases fl with
  | ret obj=>
   obtain ⟨rfl,rfl⟩:=hr
   have hS:(s.heap.push { cls:=.type "set",dict:=none,data:=.set #[] 0 (.fresh 0 0 led) }).get? s.heap.objs.size=some { cls:=.type "set",dict:=none,data:=.set #[] 0 (.fresh 0 0 led) }:=ak _ rfl
   have hT:d6 { s with heap:=s.heap.push { cls:=.type "set",dict:=none,data:=.set #[] 0 (.fresh 0 0 led) } } (.ref s.heap.objs.size) "set":=⟨_,hS,rfl⟩
   have hli:=bM.init.lookup
   have hbi:=bM.init.bind (.ref s.heap.objs.size)
   repeat (any_goals (first | assumption | wp_step))
   refine codeAny_mono (codeAny_call_builtin (R:=wants (fun r s₂=>r=.none/\∃ h' tk,s₂={ s with heap:=h',toks:=tk }/\SetS prog w h' s.heap.objs.size ks/\(∀ b o,s.heap.get? b=some o->h'.get? b=some o)) E) bM.init.plain PySem.F.entry_set_init (check_set_init_1 hT ?_)) fun r₂ s₂ hr₂=>?_
   ·unfold Builtin.«set.__init__» noKeywords
    generalize hU:bw=U
    wp_walk
    subst hU
    refine hup _ _ _ rfl fun h' tk hS' hk=>?_
    exact wpAny_pure ⟨rfl,h',tk,rfl,hS',hk⟩
   ·cases r₂ with
    | error e=>exact hr₂
    | ok fl₂=>
     cases fl₂ with
     | ret r=>
      obtain ⟨rfl,h',tk,rfl,hS',hk'⟩:=hr₂
      repeat (any_goals (first | assumption | wp_step))
      exact h _ _ hS' hk'
     | _=>exact hr₂.elim
  | _=>exact hr.elim
end
theorem yT {α:Type}:∀ {xs:List α} {i:Nat} (h:i < xs.length),(xs[i]::xs.eraseIdx i).Perm xs
 | [],_,h=>absurd h (Nat.not_lt_zero _)
 | x::xs,0,h=>cB _
 | x::xs,i+1,h=>(List.Perm.swap _ _ _).trans ((yT (xs:=xs) (i:=i) (Nat.lt_of_succ_lt_succ h)).cons x)
variable {M:Model}
theorem UF {src:Source} {Q:Nat->Shared->Prop} (hn:n≠0) (h:∀ i d',i < n->Q i { s with drawn:=d' }):wpAny M A (choose src n) Q E s:=
 fun _ _ _=>⟨hn,h _ _ (eY _ (Nat.pos_of_ne_zero hn))⟩
variable {α:Type}
theorem Xr:∀ (n:Nat) (xs:List α) (s:Shared) {Q:List α->Shared->Prop},n=xs.length->(∀ ys d',ys.Perm xs->Q ys { s with drawn:=d' })->wpAny M A (drawOrder n xs) Q E s
 | 0,xs,s,Q,hn,h=>by
  cases xs with
  | nil=>exact wpAny_pure (h [] s.drawn (cB _))
  | cons x l=>cases hn
 | n+1,[],s,Q,hn,h=>by cases hn
 | n+1,x::l,s,Q,hn,h=>by
  show wpAny M A (choose .order (x::l).length >>= _) Q E s
  refine wpAny_bind (UF (by simp) fun i d' hi=>?_)
  have e:(x::l)[i]?=some (x::l)[i]:=aC hi
  rw [e]
  refine wpAny_bind (Xr n _ _ (by rw [List.length_eraseIdx_of_lt hi]; simp only [ao] at hn ⊢; omega) fun ys d2 hp=>wpAny_pure (h _ d2 ?_))
  exact (hp.cons _).trans (yT hi)
theorem Xu (next:Nat->Nat):∀ (f k:Nat) (left:List α) (out:Array α),f=left.length->(pickOrder.go next f k left out).toList.Perm (out.toList++left)
 | 0,k,left,out,hf=>by
  cases left with
  | nil=>
   rw [aY]
   exact cB _
  | cons x l=>cases hf
 | f+1,k,left,out,hf=>by
  have hlt:next k % left.length < left.length:=eY _ (by omega)
  have e:left[next k % left.length]?=some left[next k % left.length]:=aC hlt
  unfold pickOrder.go
  rw [e]
  refine (Xu next f (k+1) _ _ (by rw [List.length_eraseIdx_of_lt hlt]; omega)).trans ?_
  rw [Array.toList_push,aM]
  exact List.Perm.append_left _ (yT hlt)
theorem zD (next:Nat->Nat) (xs:Array α):(pickOrder next xs).toList.Perm xs.toList:=by
 unfold pickOrder
 exact Xu next _ _ _ _ (by simp)
noncomputable def wR (first:Value) (i:Nat) (a:Addr) (n ep:Nat):Obj:={ cls:=.type "set_iterator",data:=.fields #[first,rawInt i,.ref a,rawInt n,rawInt ep] }
theorem slot_si_next:Slot "set_iterator" "__next__" "set_iterator.__next__":=
 .of (owner := "set_iterator") (n := "__next__") (by rw [typeLookup_type,builtinLookup_eq_fast]; kernel_rfl) (by decide +kernel) (by decide +kernel) (by decide +kernel) (by first | exact .inl (by decide +kernel) | exact .inr (by decide +kernel)) (by rw [isSubtype_type]; kernel_rfl)
theorem xz:Slot "set_iterator" "__iter__" "set_iterator.__iter__":=
 .of (owner := "set_iterator") (n := "__iter__") (by rw [typeLookup_type,builtinLookup_eq_fast]; kernel_rfl) (by decide +kernel) (by decide +kernel) (by decide +kernel) (by first | exact .inl (by decide +kernel) | exact .inr (by decide +kernel)) (by rw [isSubtype_type]; kernel_rfl)
theorem vn (a:Value):argsOk "set_iterator.__next__" ⟨[a],[]⟩:=by unfold argsOk; kernel_rfl
theorem Kf (a:Value):argsOk "set_iterator.__iter__" ⟨[a],[]⟩:=by unfold argsOk; kernel_rfl
theorem kK:entryFor table "set_iterator.__next__"=some Builtin.«set_iterator.__next__»:=entryFor_of_tree (by kernel_rfl)
theorem Qw:entryFor table "set_iterator.__iter__"=some Builtin.«dict_keyiterator.__iter__»:=entryFor_alias (id' := "dict_keyiterator.__iter__") (by kernel_rfl) rfl (by decide +kernel) (by kernel_rfl)
theorem Kg:entryFor table "set.__iter__"=some Builtin.«frozenset.__iter__»:=entryFor_alias (id' := "frozenset.__iter__") (by kernel_rfl) rfl (by decide +kernel) (by kernel_rfl)
variable {p:Addr} {b:Bool} {ps:List Nat}
section
theorem kZ (hb:w.params.followText "set-order"=b):({ program:=(model prog w).prog,params:=(model prog w).w.params }:Setting).params.followText "set-order"=b:=hb
theorem Kh {sl nx:Nat} {t:SetTable} {x:Value} {Q:Option Value->Shared->Prop} (hi:s.heap.get? it=some (wR (rawInt sl) i a n ep)) (ha:s.heap.get? a=some (jW es ep t)) (hf:t.fits es.size=true) (hz:es.size=n)
  (hn:∀ (A1:Around) (Q1:Option (Value×Nat)->Shared->Prop) (E1:Value->Shared->Prop),Q1 (some (x,nx)) s->wpAny (model prog w) A1 (setNext a sl i ep) Q1 E1 s)
  (hQ:∀ h',h'.get? it=some (wR (rawInt nx) (i+1) a n ep)->bL it s.heap h'->Q (some x) { s with heap:=h' }):wpAny (model prog w) A (pyNext (.ref it)) Q E s:=by
 have hT:s.TypeIs (.ref it) "set_iterator":=⟨_,hi,rfl⟩
 unfold pyNext
 refine wpAny_bind (wpAny_attempt (wpAny_callSpecial?_slot (name:=aV "__next__") hT slot_si_next (wpAny_call_entry slot_si_next hT kK ?_ (vn _))))
 show wpAny _ _ (fieldsOf (.ref it) >>= _) _ _ s
 refine wpAny_bind (wpAny_fieldsOf hi rfl ?_)
 show wpAny _ _ (setEntries a >>= _) _ _ s
 refine wpAny_bind (wpAny_setEntries_of ha rfl hf ?_)
 rw [if_neg (by rw [hz]; simp)]
 show wpAny _ _ (setNext a sl i ep >>= _) _ _ s
 refine wpAny_bind (hn _ _ _ ?_)
 show wpAny _ _ (setField (.ref it) 0 (rawInt nx) >>= _) _ _ s
 refine wpAny_bind (wpAny_setField hi rfl (by simp) ?_)
 have h1:(s.heap.update it (Obj.mapFields (·.setIfInBounds 0 (rawInt nx)))).get? it=some (wR (rawInt nx) i a n ep):=bh _ hi rfl
 refine wpAny_bind (wpAny_setField h1 rfl (by simp) (wpAny_pure ⟨x,rfl,wpAny_pure (hQ _ ?_ ((bI ..).trans (bI ..)))⟩))
 exact bh _ h1 rfl
theorem Ki {sl:Nat} {t:SetTable} {Q:Option Value->Shared->Prop} (hh:A.handled=none) (hi:s.heap.get? it=some (wR (rawInt sl) i a n ep)) (ha:s.heap.get? a=some (jW es ep t)) (hf:t.fits es.size=true) (hz:es.size=n)
  (hn:∀ (A1:Around) (Q1:Option (Value×Nat)->Shared->Prop) (E1:Value->Shared->Prop),Q1 none s->wpAny (model prog w) A1 (setNext a sl i ep) Q1 E1 s)
  (hQ:∀ h',Heap.ExtBut it s.heap h'->Q none { s with heap:=h' }):wpAny (model prog w) A (pyNext (.ref it)) Q E s:=by
 have hT:s.TypeIs (.ref it) "set_iterator":=⟨_,hi,rfl⟩
 unfold pyNext
 refine wpAny_bind (wpAny_attempt (wpAny_callSpecial?_slot (name:=aV "__next__") hT slot_si_next (wpAny_call_entry slot_si_next hT kK ?_ (vn _))))
 show wpAny _ _ (fieldsOf (.ref it) >>= _) _ _ s
 refine wpAny_bind (wpAny_fieldsOf hi rfl ?_)
 show wpAny _ _ (setEntries a >>= _) _ _ s
 refine wpAny_bind (wpAny_setEntries_of ha rfl hf ?_)
 rw [if_neg (by rw [hz]; simp)]
 show wpAny _ _ (setNext a sl i ep >>= _) _ _ s
 refine wpAny_bind (hn _ _ _ ?_)
 show wpAny _ _ (setField (.ref it) 2 cz >>= _) _ _ s
 refine wpAny_bind (wpAny_setField hi rfl (by simp) ?_); show wpAny _ _ (newExc (.type "StopIteration") [] >>= _) _ _ _
 refine wpAny_bind ?_; simp only [newExc,newTuple]; refine wpAny_bind (wpAny_newObj_type ?_ (by size_fits))
 refine wpAny_bind (m:=firstArgMember _ _) (wpAny_of_eq (a:=cz) (by first | rfl | (simp only [firstArgMember]; rfl)) ?_); refine wpAny_newObj_type ?_ (by size_fits); simp only [raiseNew]
 refine wpAny_bind (wpAny_handled ?_); first | rw [show A.in1.handled=none from hh] | rw [hh]
 refine wpAny_bind (wpAny_pure (wpAny_throw ?_)); refine wpAny_bind (wpAny_isInstance (T := "StopIteration") (b:=true) ⟨_,ak _ rfl,rfl⟩ isSubtype_stop ?_)
 exact wpAny_pure (hQ _ (((bI ..).extBut.push _).push _))
theorem UG {pl m:Nat} {t:SetTable} {hx:Int} {x:Value} {ps:Array Value} {Q:Option Value->Shared->Prop} (hi:s.heap.get? it=some (wR (.ref p) i a n ep)) (ha:s.heap.get? a=some (jW es ep t)) (hf:t.fits es.size=true) (hz:es.size=n)
  (hp:s.heap.get? p=some { cls:=.type "tuple",data:=.seq ps m }) (hpl:ps[i]?=some (rawInt pl)) (hx:es[pl]?=some (hx,x))
  (hQ:∀ h',h'.get? it=some (wR (.ref p) (i+1) a n ep)->bL it s.heap h'->Q (some x) { s with heap:=h' }):wpAny (model prog w) A (pyNext (.ref it)) Q E s:=by
 have hT:s.TypeIs (.ref it) "set_iterator":=⟨_,hi,rfl⟩
 unfold pyNext
 refine wpAny_bind (wpAny_attempt (wpAny_callSpecial?_slot (name:=aV "__next__") hT slot_si_next (wpAny_call_entry slot_si_next hT kK ?_ (vn _))))
 show wpAny _ _ (fieldsOf (.ref it) >>= _) _ _ s
 refine wpAny_bind (wpAny_fieldsOf hi rfl ?_)
 show wpAny _ _ (setEntries a >>= _) _ _ s
 refine wpAny_bind (wpAny_setEntries_of ha rfl hf ?_)
 rw [if_neg (by rw [hz]; simp)]
 show wpAny _ _ (seqItems? (.ref p) >>= _) _ _ s
 refine wpAny_bind (wpAny_seqItems hp rfl ?_)
 dsimp only
 rw [show ps[Int.toNat (i:Int)]?=some (rawInt pl) from hpl]
 show wpAny _ _ (setNextDrawn a pl ep >>= _) _ _ s
 refine wpAny_bind ?_
 unfold setNextDrawn
 refine wpAny_bind (wpAny_setState_of ha rfl hf ?_)
 dsimp only
 rw [if_neg (by simp),hx]
 refine wpAny_pure ?_
 show wpAny _ _ (setField (.ref it) 1 (rawInt (i+1)) >>= _) _ _ s
 refine wpAny_bind (wpAny_setField hi rfl (by simp) (wpAny_pure ⟨x,rfl,wpAny_pure (hQ _ ?_ (bI ..))⟩))
 exact bh _ hi rfl
theorem Xv {m:Nat} {t:SetTable} {ps:Array Value} {Q:Option Value->Shared->Prop} (hh:A.handled=none) (hi:s.heap.get? it=some (wR (.ref p) i a n ep)) (ha:s.heap.get? a=some (jW es ep t)) (hf:t.fits es.size=true) (hz:es.size=n)
  (hp:s.heap.get? p=some { cls:=.type "tuple",data:=.seq ps m }) (hpl:ps[i]?=none)
  (hQ:∀ h',Heap.ExtBut it s.heap h'->Q none { s with heap:=h' }):wpAny (model prog w) A (pyNext (.ref it)) Q E s:=by
 have hT:s.TypeIs (.ref it) "set_iterator":=⟨_,hi,rfl⟩
 unfold pyNext
 refine wpAny_bind (wpAny_attempt (wpAny_callSpecial?_slot (name:=aV "__next__") hT slot_si_next (wpAny_call_entry slot_si_next hT kK ?_ (vn _))))
 show wpAny _ _ (fieldsOf (.ref it) >>= _) _ _ s
 refine wpAny_bind (wpAny_fieldsOf hi rfl ?_)
 show wpAny _ _ (setEntries a >>= _) _ _ s
 refine wpAny_bind (wpAny_setEntries_of ha rfl hf ?_)
 rw [if_neg (by rw [hz]; simp)]
 show wpAny _ _ (seqItems? (.ref p) >>= _) _ _ s
 refine wpAny_bind (wpAny_seqItems hp rfl ?_)
 dsimp only
 rw [show ps[Int.toNat (i:Int)]?=none from hpl]
 show wpAny _ _ (setField (.ref it) 0 (rawInt 0) >>= _) _ _ s
 refine wpAny_bind (wpAny_setField hi rfl (by simp) ?_)
 have h1:(s.heap.update it (Obj.mapFields (·.setIfInBounds 0 (rawInt 0)))).get? it=some (wR (rawInt 0) i a n ep):=bh _ hi rfl
 refine wpAny_bind (wpAny_setField h1 rfl (by simp) ?_); show wpAny _ _ (newExc (.type "StopIteration") [] >>= _) _ _ _
 refine wpAny_bind ?_; simp only [newExc,newTuple]; refine wpAny_bind (wpAny_newObj_type ?_ (by size_fits))
 refine wpAny_bind (m:=firstArgMember _ _) (wpAny_of_eq (a:=cz) (by first | rfl | (simp only [firstArgMember]; rfl)) ?_); refine wpAny_newObj_type ?_ (by size_fits); simp only [raiseNew]
 refine wpAny_bind (wpAny_handled ?_); first | rw [show A.in1.handled=none from hh] | rw [hh]
 refine wpAny_bind (wpAny_pure (wpAny_throw ?_)); refine wpAny_bind (wpAny_isInstance (T := "StopIteration") (b:=true) ⟨_,ak _ rfl,rfl⟩ isSubtype_stop ?_)
 exact wpAny_pure (hQ _ (((((bI ..).trans (bI ..))).extBut.push _).push _))
theorem zE {Q:Value->Shared->Prop} (hi:s.heap.get? it=some o) (hc:o.cls=.type "set_iterator") (h:Q (.ref it) s):wpAny (model prog w) A (pyIter (.ref it)) Q E s:=by
 have hT:s.TypeIs (.ref it) "set_iterator":=⟨_,hi,hc⟩
 refine wpAny_pyIter_slot hT xz (wpAny_call_entry xz hT Qw ?_ (Kf _)); show wpAny _ _ (ret (.ref it)) _ _ s
 exact wpAny_pure ⟨_,rfl, "set_iterator",_,hT,slot_si_next.lookup,h⟩
theorem Xw {ep:Nat} {t:SetTable} (hh:A.handled=none) (hb:w.params.followText "set-order"=true) (hf:t.fits es.size=true) (hne:a≠it) :
  Walks prog w A it [it,a] [it] es.size (fun i v=>((pickOrder (w.params.setOrder a ep) es).toList.map (·.2))[i]?=some v) (fun i h=>h.get? it=some (wR (rawInt 0) i a es.size ep)/\h.get? a=some (jW es ep t)) where
 sub:=fun b hb=>by simp at hb; simp [hb]
 frame:=fun _ _ _ st hk=>⟨hk it (by simp) _ st.1,hk a (by simp) _ st.2⟩
 item:=fun i s Q E hi st hQ=>by
  have hlen:(pickOrder (w.params.setOrder a ep) es).size=es.size:=by
   have:=(zD (w.params.setOrder a ep) es).length_eq
   simpa using this
  have hlt:i < (pickOrder (w.params.setOrder a ep) es).size:=by omega
  obtain ⟨e,he⟩:∃ e,(pickOrder (w.params.setOrder a ep) es)[i]?=some e:=⟨_,bF hlt⟩
  refine Kh (x:=e.2) (nx:=0) st.1 st.2 hf rfl (fun A1 Q1 E1 q=>?_) fun h' hi' sb=>hQ e.2 h' s.toks ?_ ⟨hi',?_⟩ fun b o nb eo=>?_
  ·unfold setNext
   refine wpAny_bind (wpAny_setState_of st.2 rfl hf ?_)
   dsimp only
   refine wpAny_bind (m:=setsByText) (wpAny_bind (wpAny_askSetting (wpAny_pure ?_)))
   rw [kZ hb,if_pos rfl,if_neg (by simp)]
   refine wpAny_bind ?_
   unfold setWalk
   refine wpAny_bind (wpAny_setState_of st.2 rfl hf ?_)
   dsimp only
   refine wpAny_bind (m:=setsByText) (wpAny_bind (wpAny_askSetting (wpAny_pure ?_)))
   rw [kZ hb,if_pos rfl]
   refine wpAny_bind (wpAny_askSetting (wpAny_pure ?_))
   refine wpAny_pure ?_
   rw [show (pickOrder ((⟨(model prog w).prog,(model prog w).w.params⟩:Setting).params.setOrder a ep) es)[i]?=some e from he]
   exact q
  ·rw [aF,bi,he]
   rfl
  ·rw [sb.2 a hne]
   exact st.2
  ·rw [sb.2 b (fun z=>nb (by simp [z]))]
   exact eo
 done:=fun s Q E st hQ=>by
  have hlen:(pickOrder (w.params.setOrder a ep) es).size=es.size:=by
   have:=(zD (w.params.setOrder a ep) es).length_eq
   simpa using this
  refine Ki hh st.1 st.2 hf rfl (fun A1 Q1 E1 q=>?_) fun h' eb=>hQ h' s.toks fun b o nb eo=>eb b o (fun z=>nb (by simp [z])) eo
  unfold setNext
  refine wpAny_bind (wpAny_setState_of st.2 rfl hf ?_)
  dsimp only
  refine wpAny_bind (m:=setsByText) (wpAny_bind (wpAny_askSetting (wpAny_pure ?_)))
  rw [kZ hb,if_pos rfl,if_neg (by simp)]
  refine wpAny_bind ?_
  unfold setWalk
  refine wpAny_bind (wpAny_setState_of st.2 rfl hf ?_)
  dsimp only
  refine wpAny_bind (m:=setsByText) (wpAny_bind (wpAny_askSetting (wpAny_pure ?_)))
  rw [kZ hb,if_pos rfl]
  refine wpAny_bind (wpAny_askSetting (wpAny_pure ?_))
  refine wpAny_pure ?_
  rw [show (pickOrder ((⟨(model prog w).prog,(model prog w).w.params⟩:Setting).params.setOrder a ep) es)[es.size]?=none from cW (dR hlen)]
  exact q
 self:=fun i s Q E st hQ=>zE st.1 rfl hQ
noncomputable def uS (t:SetTable) (i:Nat):Nat:=if i=0 then 0 else t.place.getD 0 0+1
theorem Kj (j k:Nat):bo #[j] k=if j < k then 1 else 0:=by
 unfold bo
 show bo.go #[j] k 1 0 1=_
 unfold bo.go
 rw [if_pos (by omega)]
 show (if (#[j]:Array Nat).getD 0 k < k then bo.go #[j] k 0 1 1 else bo.go #[j] k 0 0 0)=_
 show (if j < k then bo.go #[j] k 0 1 1 else bo.go #[j] k 0 0 0)=_
 split <;> rfl
theorem WG {t:SetTable} {Q:Option (Value×Nat)->Shared->Prop} (hb:w.params.followText "set-order"=false) (hf:t.fits es.size=true) (hl:t.led=true) (hz:es.size<=1) (ha:s.heap.get? a=some (jW es ep t)) (hi:i<=es.size)
  (q:Q (match es[i]? with | some e=>some (e.2,uS t (i+1)) | none=>none) s):wpAny (model prog w) A (setNext a (uS t i) i ep) Q E s:=by
 have hps:t.place.size=es.size:=by
  have:=hf
  simp only [SetTable.fits,aR,beq_iff_eq] at this
  exact this.1
 unfold setNext
 refine wpAny_bind (wpAny_setState_of ha rfl hf ?_)
 dsimp only
 refine wpAny_bind (m:=setsByText) (wpAny_bind (wpAny_askSetting (wpAny_pure ?_)))
 rw [kZ hb,if_neg (by simp)]
 show wpAny _ _ (if (!t.plain&&decide (es.size > 1))=true then _ else _) _ _ _
 rw [if_neg (by simp; intro _; omega)]
 refine wpAny_bind ?_
 show wpAny _ _ (if (!t.led&&!es.isEmpty)=true then _ else _) _ _ _
 rw [hl,if_neg (by simp)]
 refine wpAny_pure (wpAny_pure ?_)
 have e:(match es[bo t.place (uS t i)]?,t.place[bo t.place (uS t i)]? with | some (_,x),some j=>some (x,j+1) | _,_=>none)=(match es[i]? with | some e=>some (e.2,uS t (i+1)) | none=>none:Option (Value×Nat)):=by
  obtain ⟨l⟩:=es
  obtain ⟨mask,⟨pl⟩,du,fi,le,mo,pn⟩:=t
  cases l with
  | nil=>simp
  | cons e0 l=>
   cases l with
   | cons _ _=>exact absurd hz (by simp)
   | nil=>
    cases pl with
    | nil=>exact absurd hps (by simp)
    | cons j pl=>
     cases pl with
     | cons _ _=>exact absurd hps (by simp)
     | nil=>
      have hi1:i=0\/i=1:=by simp at hi; omega
      rcases hi1 with rfl | rfl
      ·show (match (#[e0]:Array (Int×Value))[bo #[j] 0]?,(#[j]:Array Nat)[bo #[j] 0]? with | some (_,x),some j=>some (x,j+1) | _,_=>none)=some (e0.2,j+1)
       rw [Kj,if_neg (by omega)]
       rfl
      ·show (match (#[e0]:Array (Int×Value))[bo #[j] (j+1)]?,(#[j]:Array Nat)[bo #[j] (j+1)]? with | some (_,x),some j=>some (x,j+1) | _,_=>none)=none
       rw [Kj,if_pos (by omega)]
       rfl
 exact Eq.mp (congrArg (fun z=>Q z s) e.symm) q
theorem qag {ep:Nat} {t:SetTable} (hh:A.handled=none) (hb:w.params.followText "set-order"=false) (hf:t.fits es.size=true) (hl:t.led=true) (hz:es.size<=1) (hne:a≠it) :
  Walks prog w A it [it,a] [it] es.size (fun i v=>(es.toList.map (·.2))[i]?=some v) (fun i h=>h.get? it=some (wR (rawInt (uS t i)) i a es.size ep)/\h.get? a=some (jW es ep t)) where
 sub:=fun b hb=>by simp at hb; simp [hb]
 frame:=fun _ _ _ st hk=>⟨hk it (by simp) _ st.1,hk a (by simp) _ st.2⟩
 item:=fun i s Q E hi st hQ=>by
  have he:es[i]?=some es[i]:=bF hi
  refine Kh (x:=es[i].2) (nx:=uS t (i+1)) st.1 st.2 hf rfl (fun A1 Q1 E1 q=>WG hb hf hl hz st.2 (cU hi) (by rw [he]; exact q)) fun h' hi' sb=>hQ es[i].2 h' s.toks ?_ ⟨hi',?_⟩ fun b o nb eo=>?_
  ·rw [aF,bi,he]
   rfl
  ·rw [sb.2 a hne]
   exact st.2
  ·rw [sb.2 b (fun z=>nb (by simp [z]))]
   exact eo
 done:=fun s Q E st hQ=>Ki hh st.1 st.2 hf rfl (fun A1 Q1 E1 q=>WG hb hf hl hz st.2 (aB _) (by rw [cW (aB _)]; exact q)) fun h' eb=>hQ h' s.toks fun b o nb eo=>eb b o (fun z=>nb (by simp [z])) eo
 self:=fun i s Q E st hQ=>zE st.1 rfl hQ
noncomputable def qet (es:Array (Int×Value)) (ps:List Nat):List Value:=ps.map fun k=>(es[k]?.map (·.2)).getD .none
theorem Xx (h:ps.Perm (aJ es.size)):(qet es ps).Perm (es.toList.map (·.2)):=by
 have e:qet es (aJ es.size)=es.toList.map (·.2):=by
  apply dW
  intro i
  unfold qet
  rw [aF,aF,show es.toList[i]?=es[i]? from bi]
  by_cases hi:i < es.size
  ·rw [List.getElem?_range hi,bF hi]
   simp [hi]
  ·rw [bZ (by rw [cm]; omega),cW (by omega)]
   rfl
 rw [<-e]
 exact h.map _
theorem UH {ep m:Nat} {t:SetTable} (hh:A.handled=none) (hf:t.fits es.size=true) (hp:ps.Perm (aJ es.size)) (hne:a≠it) (hpe:p≠it) :
  Walks prog w A it [it,a,p] [it] es.size (fun i v=>(qet es ps)[i]?=some v) (fun i h=>h.get? it=some (wR (.ref p) i a es.size ep)/\h.get? a=some (jW es ep t)/\h.get? p=some { cls:=.type "tuple",data:=.seq (ps.map fun (i:Nat)=>rawInt i).toArray m }) where
 sub:=fun b hb=>by simp at hb; simp [hb]
 frame:=fun _ _ _ st hk=>⟨hk it (by simp) _ st.1,hk a (by simp) _ st.2.1,hk p (by simp) _ st.2.2⟩
 item:=fun i s Q E hi st hQ=>by
  have hlen:ps.length=es.size:=by rw [hp.length_eq,cm]
  have hil:i < ps.length:=by omega
  have hk:ps[i] < es.size:=bJ.mp (hp.mem_iff.mp (ce hil))
  have he:es[ps[i]]?=some es[ps[i]]:=bF hk
  refine UG (x:=es[ps[i]].2) (hx:=es[ps[i]].1) (pl:=ps[i]) st.1 st.2.1 hf rfl st.2.2 ?_ he fun h' hi' sb=>hQ es[ps[i]].2 h' s.toks ?_ ⟨hi',?_,?_⟩ fun b o nb eo=>?_
  ·rw [dY,aF,aC hil]
   rfl
  ·unfold qet
   rw [aF,aC hil]
   simp [he]
  ·rw [sb.2 a hne]
   exact st.2.1
  ·rw [sb.2 p hpe]
   exact st.2.2
  ·rw [sb.2 b (fun z=>nb (by simp [z]))]
   exact eo
 done:=fun s Q E st hQ=>by
  have hlen:ps.length=es.size:=by rw [hp.length_eq,cm]
  refine Xv hh st.1 st.2.1 hf rfl st.2.2 ?_ fun h' eb=>hQ h' s.toks fun b o nb eo=>eb b o (fun z=>nb (by simp [z])) eo
  rw [dY,bZ (by simp; omega)]
 self:=fun i s Q E st hQ=>zE st.1 rfl hQ
theorem qah {t:SetTable} {A1:Around} {Q:Value->Shared->Prop} (hh:A1.handled=none) (ha:s.heap.get? a=some (jW es ep t)) (d:SetD prog w es t ks)
  (hQ:∀ (it:Addr) (h':Heap) (dr:Drawn) (ord:List Value) (fp:List Addr) (St:Nat->Heap->Prop),(∀ b o,s.heap.get? b=some o->h'.get? b=some o)->ord.Perm (es.toList.map (·.2))->Walks prog w A1 it fp [it] es.size (fun i v=>ord[i]?=some v) St->St 0 h' ->
   (∀ b∈fp,b=a\/s.heap.objs.size<=b)->s.heap.objs.size<=it->Q (.ref it) { s with heap:=h',drawn:=dr }):wpAny (model prog w) A (pyIter (.ref a)) Q E s:=by
 have hT:s.TypeIs (.ref a) "set":=⟨_,ha,rfl⟩
 have hlt:a < s.heap.objs.size:=ap ha
 refine wpAny_pyIter_slot hT PySem.F.slot_set_iter (wpAny_call_entry PySem.F.slot_set_iter hT Kg ?_ (PySem.F.args_set_iter_1 _))
 show wpAny _ _ (Builtin.Frozenset.sizeOf a >>= _) _ _ s
 refine wpAny_bind (m:=Builtin.Frozenset.sizeOf a) (wpAny_bind (wpAny_setEntries_of ha rfl d.fits (wpAny_pure ?_)))
 refine wpAny_bind (m:=setDrawn a) ?_
 unfold setDrawn
 refine wpAny_bind (wpAny_setState_of ha rfl d.fits ?_)
 dsimp only
 refine wpAny_bind (m:=setsByText) (wpAny_bind (wpAny_askSetting (wpAny_pure ?_)))
 refine wpAny_pure ?_
 cases hb:w.params.followText "set-order" with
 | true=>
  rw [kZ hb,if_neg (by simp)]
  refine wpAny_bind (wpAny_pure ?_)
  refine wpAny_bind (m:=setEpoch a) (wpAny_setEpoch_of ha rfl d.fits ?_)
  refine wpAny_bind (wpAny_newObj_type (wpAny_pure ⟨_,rfl, "set_iterator",_,⟨_,ak _ rfl,rfl⟩,slot_si_next.lookup,?_⟩))
  refine hQ _ _ s.drawn _ _ _ (fun b o e=>ae _ e) ((zD (w.params.setOrder a ep) es).map _) (Xw hh hb d.fits (aD hlt)) ⟨ak _ rfl,ae _ ha⟩ ?_ (aB _)
  intro b hb
  rcases ac.mp hb with z | z
  ·exact .inr (z ▸ aB _)
  ·exact .inl (au.mp z)
 | false=>
  have hled:t.led=true:=by rw [d.led,hb]; rfl
  rw [kZ hb]
  show wpAny _ _ (if (!false&&(!t.plain&&decide (es.size > 1)))=true then _ else _) _ _ _
  by_cases hn:es.size<=1
  ·rw [if_neg (by simp; intro _; omega)]
   refine wpAny_bind (wpAny_pure ?_)
   refine wpAny_bind (m:=setEpoch a) (wpAny_setEpoch_of ha rfl d.fits ?_)
   refine wpAny_bind (wpAny_newObj_type (wpAny_pure ⟨_,rfl, "set_iterator",_,⟨_,ak _ rfl,rfl⟩,slot_si_next.lookup,?_⟩))
   refine hQ _ _ s.drawn _ _ _ (fun b o e=>ae _ e) (cB _) (qag hh hb d.fits hled hn (aD hlt)) ⟨ak _ rfl,ae _ ha⟩ ?_ (aB _)
   intro b hb
   rcases ac.mp hb with z | z
   ·exact .inr (z ▸ aB _)
   ·exact .inl (au.mp z)
  ·have hpl:t.plain=false:=d.plain fun z=>by
    have h0:=d.size
    rw [z,bv] at h0
    omega
   rw [if_pos (by rw [hpl]; simp; omega)]
   refine wpAny_bind (Xr es.size (aJ es.size) s (by simp) fun ps dr hp=>?_)
   have hpl2:ps.length=es.size:=by rw [hp.length_eq,cm]
   have hsz:(ps.map fun (i:Nat)=>rawInt i).length<=sizeLine:=by rw [ay,hpl2]; exact fits_of_scanBound d.bd
   refine wpAny_bind (wpAny_newTuple ?_ hsz)
   refine wpAny_bind (m:=setEpoch a) (wpAny_setEpoch_of (ae _ ha) rfl d.fits ?_)
   refine wpAny_bind (wpAny_newObj_type (wpAny_pure ⟨_,rfl, "set_iterator",_,⟨_,ak _ rfl,rfl⟩,slot_si_next.lookup,?_⟩))
   have hp1:s.heap.objs.size < (s.heap.push ({ cls:=.type "tuple",data:=.seq (ps.map fun (i:Nat)=>rawInt i).toArray }:Obj)).objs.size:=by rw [cA]; exact Nat.lt_succ_self _
   refine hQ _ _ dr _ _ _ (fun b o e=>ae _ (ae _ e)) (Xx hp) (UH (p:=s.heap.objs.size) hh d.fits hp (aD (cV hlt hp1)) (aD hp1)) ⟨ak _ rfl,ae _ (ae _ ha),ae _ (ak _ rfl)⟩ ?_ (cU hp1)
   intro b hb
   rcases ac.mp hb with z | z
   ·exact .inr (z ▸ cU hp1)
   ·rcases ac.mp z with z | z
    ·exact .inl z
    ·exact .inr (dR (au.mp z).symm)
end
section
theorem qai {ord:List Value} {acc:Array Value} (hl:ord.length=n) (h:ItemsOf (fun i v=>ord[i]?=some v) acc n):acc.toList=ord:=by
 apply dW
 intro i
 rw [show acc.toList[i]?=acc[i]? from bi]
 by_cases hi:i < acc.size
 ·rw [bF hi]
  exact (h.2 i _ (bF hi)).symm
 ·rw [cW (by omega),bZ (by have:=h.1; omega)]
theorem Vr {t:SetTable} {Q:List Value->Shared->Prop} (hh:A.handled=none) (ha:s.heap.get? a=some (jW es ep t)) (d:SetD prog w es t ks)
  (hQ:∀ h' dr tk ord,(∀ b o,s.heap.get? b=some o->h'.get? b=some o)->ord.Perm (es.toList.map (·.2))->Q ord { s with heap:=h',drawn:=dr,toks:=tk }):wpAny (model prog w) A (collect (.ref a)) Q E s:=by
 have hlt:a < s.heap.objs.size:=ap ha
 unfold collect
 refine wpAny_bind (wpAny_runValue (codeAny_builtin PySem.F.entry_proto_collect ?_)); rw [aQ PySem.F.plain_proto_collect _]
 show wpAny _ A.in1 (newList [] >>= fun l=>again (.builtin "list.__iadd__" ⟨[l,.ref a],[]⟩)) _ _ s; refine wpAny_bind (wpAny_newObj_type ?_)
 refine wpAny_pure ⟨plainId_quiet PySem.F.plain_list_iadd _,codeAny_builtin PySem.F.entry_list_iadd ?_⟩; rw [aQ PySem.F.plain_list_iadd _]
 have ha1:(s.heap.push { cls:=.type "list",data:=.seq ([]:List Value).toArray }).get? a=some (jW es ep t):=ae _ ha
 have hT:d6 { s with heap:=s.heap.push { cls:=.type "list",data:=.seq ([]:List Value).toArray } } (.ref a) "set":=⟨_,ha1,rfl⟩
 show wpAny _ A.in1 (bg (.ref s.heap.objs.size) (.ref a) (.ref s.heap.objs.size)) _ _ _; unfold bg
 refine wpAny_bind (wpAny_typeOf hT ?_)
 have h1:cM (.ref s.heap.objs.size) (.ref a)=false:=by simp [cM,cf hlt]
 rw [if_neg (by rw [h1]; decide)]
 refine wpAny_bind (qah (A1:=A.in1) hh ha1 d fun it h2 dr ord fp St k2 hp W hst hfp hit=>?_)
 have hS1:h2.get? s.heap.objs.size=some { cls:=.type "list",data:=.seq ([]:List Value).toArray }:=k2 _ _ (ak _ rfl)
 have ha2:h2.get? a=some (jW es ep t):=k2 _ _ ha1
 refine wpAny_bind (wpAny_holding ?_)
 unfold Builtin.List.listLengthHint
 have hT2:d6 { s with heap:=h2,drawn:=dr } (.ref a) "set":=⟨_,ha2,rfl⟩
 refine wpAny_bind (wpAny_specialOf hT2 PySem.F.slot_set_len.lookup ?_)
 (generalize hid:("set.__len__":String)=id0; (fail_if_success (clear hid id0)); wp_delta; rw [show splitId id0=some ("set", "__len__") from by subst hid; decide +kernel]; subst hid)
 refine wpAny_bind (wpAny_isInstance (b:=true) hT2 (by rw [isSubtype_type]; kernel_rfl) ?_)
 refine wpAny_bind (m:=typeOf (.ref a)) (wpAny_typeOf hT2 ?_)
 refine wpAny_pure ?_
 show wpAny _ A.in1 (rule "list.extend.makes-room" >>= fun _=>Builtin.List.listTouch (.ref s.heap.objs.size) >>= fun _=>again (.builtin "list.extend.loop" ⟨[.ref s.heap.objs.size,.ref it,.ref s.heap.objs.size],[]⟩)) _ _ _
 refine wpAny_bind (wpAny_rule (wpAny_bind ?_)); show wpAny _ A.in1 (updateSeq s.heap.objs.size (·.push .none) >>= fun _=>updateSeq s.heap.objs.size (·.pop)) _ _ _
 refine wpAny_bind (wpAny_updateSeq hS1 rfl ?_); have hS₂:=bh (cJ (·.push cz)) hS1 rfl
 refine wpAny_updateSeq hS₂ rfl ?_; have hS₃:=bh (cJ (·.pop)) hS₂ rfl
 have hzs:(s.heap.push ({ cls:=.type "list",data:=.seq ([]:List Value).toArray }:Obj)).objs.size=s.heap.objs.size+1:=cA ..
 have oth:∀ b o,b≠s.heap.objs.size->h2.get? b=some o->((h2.update s.heap.objs.size (cJ (·.push cz))).update s.heap.objs.size (cJ (·.pop))).get? b=some o:=fun b o hb e=>(cy _ _ (aU hb)).trans ((cy _ _ (aU hb)).trans e)
 have nf:s.heap.objs.size∉fp:=fun z=>by
  rcases hfp _ z with q | q
  ·exact cf hlt q
  ·exact Nat.not_succ_le_self _ (hzs ▸ q)
 have hlen:ord.length=es.size:=by
  rw [hp.length_eq]
  simp
 refine wpAny_pure ⟨plainId_quiet PySem.F.plain_extend_loop _,codeAny_extend_loopS W.toS (fits_of_scanBound d.bd) _ nf _ es.size 0 _ _ _ rfl (bq _) (W.frame 0 h2 _ hst fun b hb o e=>oth b o (fun z=>nf (z ▸ hb)) e) hS₃ (ItemsOf.nil _) fun s' acc' c' hm hS' hacc=>?_⟩
 show wpAny _ A (load s.heap.objs.size >>= _) _ _ s'
 refine wpAny_bind (wpAny_load hS' (wpAny_pure ?_))
 rw [qai hlen hacc]
 obtain ⟨h',g',d',tk',os'⟩:=s'
 have eg:g'=s.gens:=hm.gens
 have ed:d'=dr:=hm.drawn
 have eo:os'=s.os:=hm.os
 subst eg ed eo
 refine hQ h' d' tk' ord (fun b o e=>?_) hp
 have hb:=ap e
 refine hm.heap b o (fun z=>?_) (oth b o (aD hb) (k2 b o (ae _ e)))
 rcases ac.mp z with z | z
 ·exact aD hb z
 ·have h3:s.heap.objs.size+1<=it:=hzs ▸ hit
  rw [<-au.mp z] at h3
  exact bR _ (cV hb h3)
theorem UI {Q:Value->Shared->Prop} (hh:A.handled=none) (hS:SetS prog w s.heap a ks) (h64:ks.length < 64)
  (hQ:∀ (h1 h':Heap) dr tk vs e ss,(∀ b o,s.heap.get? b=some o->h1.get? b=some o)->(∀ b o,h1.get? b=some o->h'.get? b=some o)->h'.get? h1.objs.size=some (seqObj "list" vs e)->StrsAre vs.toList ss->ss.Perm ks->sortedS ss=true->Q (.ref h1.objs.size) { s with heap:=h',drawn:=dr,toks:=tk }) :
  wpAny (model prog w) A (call (.builtin "sorted") [.ref a]) Q E s:=by
 obtain ⟨es,ep,t,ha,d⟩:=hS
 refine Calls.call_function_entry kind_sorted plain_sorted entry_sorted (args_sorted1 _) ?_; unfold Builtin.«sorted»
 refine wpAny_bind (m:=checkCount "sorted" 1 1 _) (wpAny_pure ?_)
 refine wpAny_bind (Vr (by exact hh) ha d fun h1 dr tk ord k1 hp=>?_)
 have hst:StrsAre ord (ord.map strOf):=strsAre_map ord fun v hv=>by
  obtain ⟨e,he,rfl⟩:=ah.mp (hp.mem_iff.mp hv)
  exact Xo d.el he
 have hpk:(ord.map strOf).Perm ks:=(hp.map strOf).trans (by rw [bD]; exact d.perm)
 have hlen:ord.length=ks.length:=by
  have:=hpk.length_eq
  rwa [ay] at this
 refine wpAny_bind (wpAny_newList ?_ (by rw [hlen,sizeLine_eq]; omega))
 have hoL:(h1.push (seqObj "list" ord.toArray 0)).get? h1.objs.size=some (seqObj "list" ord.toArray 0):=ak _ rfl
 refine wpAny_bind (wpAny_holding (wpAny_call_entry slot_list_sort (s:={ s with heap:=h1.push (seqObj "list" ord.toArray 0),drawn:=dr,toks:=tk }) ⟨_,hoL,rfl⟩ entry_list_sort (list_sort_treeK strKind_oneLt hoL hst.keysOf (fun v₁ v₂ rest e=>keyKind_strs (by rw [<-e]; exact hst)) (by rw [hlen]; exact h64) fun st' a1 a2=>⟨_,rfl,?_⟩) (args_list_sort _)))
 obtain ⟨ss',b1,b2,b3⟩:=sorted_out_str hst a1 a2
 obtain ⟨e,he⟩:=sortedHeap_at (out:=(arrOf st').map (·.2)) hoL
 refine wpAny_pure ⟨_,rfl,hQ h1 _ dr tk _ e ss' k1 (fun b o eb=>?_) he b1 (b2.trans hpk) b3⟩
 have hb:=ap eb
 rw [sortedHeap_old (aD hb) (by rw [cA]; exact eF hb)]
 exact ae _ eb
end
section
variable {z TI TO i1 i2:Addr} {fp1 fp2:List Addr} {n1 n2:Nat} {P1 P2:Nat->Value->Prop} {S1 S2:Nat->Heap->Prop} {a b:Value}
end
inductive SK where
 | l | t
noncomputable def SK.itc:SK->String
 | .l => "list_iterator"
 | .t => "tuple_iterator"
def ItK (h:Heap) (it a:Addr):SK->Nat->Prop
 | .l,i=>h.IsListIter it a i
 | .t,i=>h.IsTupleIter it a i
theorem ItK.obj:∀ {k:SK},ItK h it a k i->∃ o,h.get? it=some o/\o.cls=.type k.itc/\o.data=.fields #[.ref a,.int i 0]
 | .l,⟨o,e,c,d⟩=>⟨o,e,c,d⟩
 | .t,⟨o,e,c,d⟩=>⟨o,e,c,d⟩
variable {t':Nat}
section
theorem Xy {ch:List Addr} (I:Inv X pins σ H s) (k:∀ b o,b∉ch->s.heap.get? b=some o->h'.get? b=some o) (hf:∀ b∈ch,KP X pins H b):Inv X pins σ H { s with heap:=h',toks:=t' }:=by
 have nit:∀ b u,H b=some u->b∉ch:=fun b u e z=>by
  rw [(hf b z).1] at e
  cases e
 refine I.step (g':=s.gens) (d':=s.drawn) (ch:=ch) (fun b hb=>?_) (fun b o _ _ hc e _=>k b o hc e) (fun b o _ _ hc e _=>⟨o.slots,k b o hc e⟩) (fun _ _ _ _ n=>n) (fun b o hc e=>⟨o,k b o hc e⟩) (fun _ _ e=>e) (fun _ _ _ e=>e) (fun b ps e=>⟨#[],by rw [e]; simp⟩) (fun m hm=>?_) (fun b u e=>?_) I.bare
 ·obtain ⟨f0,f1,f2,f3,f4,f5⟩:=hf b hb
  exact ⟨f3,f1,f4,f5⟩
 ·obtain ⟨o,es,ep,ho,r⟩:=hm
  exact ⟨o,es,ep,k _ o (fun z=>(hf _ z).2.1 rfl) ho,r⟩
 ·refine (I.hok b u e).stay (fun c v hc q=>k c v ?_ q) (fun _ q=>q) fun _ _ q=>q
  rcases hc with z | z
  ·rw [z]
   exact nit b u e
  ·exact nit c _ z
theorem qhD {d':Drawn} (I:Inv X pins σ H s) (k:∀ b u,s.heap.get? b=some u->h'.get? b=some u):Inv X pins σ H { s with heap:=h',drawn:=d',toks:=t' }:=by
 refine I.step (g':=s.gens) (d':=d') (ch:=[]) (fun _ z=>nomatch z) (fun b o _ _ _ e _=>k b o e) (fun b o _ _ _ e _=>⟨o.slots,k b o e⟩) (fun _ _ _ _ n=>n) (fun b o _ e=>⟨o,k b o e⟩) (fun _ _ e=>e) (fun _ _ _ e=>e) (fun b ps e=>⟨#[],by rw [e]; simp⟩) (fun m hm=>?_) (I.hok.kept k) I.bare
 obtain ⟨o,es,ep,ho,r⟩:=hm
 exact ⟨o,es,ep,k _ o ho,r⟩
end
theorem Xz {xs:List V} {us:List Value} (r:Vals xs us) (h:us[i]?=some u):∃ x,xs[i]?=some x/\RelV x u:=by
 have hi:i < us.length:=(aA.mp h).1
 have hx:i < xs.length:=by rw [r.length]; exact hi
 obtain ⟨u',h1,h2⟩:=r.get (aC hx)
 rw [h] at h1
 cases h1
 exact ⟨xs[i],aC hx,h2⟩
def leS (x y:Str):Prop:=¬y.cps.toList < x.cps.toList
noncomputable def qdr (x:Str):List Str->List Str
 | []=>[x]
 | y::l=>if uN y x=true then y::qdr x l else x::y::l
noncomputable def jX:List Str->List Str
 | []=>[]
 | x::l=>qdr x (jX l)
theorem zF {z:Str} (a:leS x y) (b:leS y z):leS x z:=List.le_trans (α:=Nat) a b
theorem Kk (x y:Str):leS x y\/leS y x:=List.le_total (α:=Nat) x.cps.toList y.cps.toList
theorem Qx (a:leS x y) (b:leS y x):x=y:=by
 have e:=List.le_antisymm (α:=Nat) (as:=x.cps.toList) (bs:=y.cps.toList) a b
 obtain ⟨⟨l⟩⟩:=x
 obtain ⟨⟨m⟩⟩:=y
 simp at e
 rw [e]
theorem strLt_false:uN y x=false↔leS x y:=by
 unfold uN leS
 exact decide_eq_false_iff_not
theorem zG (x:Str):∀ l,(qdr x l).Perm (x::l)
 | []=>cB _
 | y::l=>by
  unfold qdr
  split
  ·exact ((zG x l).cons y).trans (List.Perm.swap _ _ _)
  ·exact cB _
theorem qR:∀ l,(jX l).Perm l
 | []=>cB _
 | x::l=>(zG x _).trans ((qR l).cons x)
theorem zH (x:Str):∀ l,l.Pairwise leS->(qdr x l).Pairwise leS
 | [],_=>List.pairwise_singleton _ _
 | y::l,h=>by
  have h0:=aS.mp h
  unfold qdr
  split
  ·rename_i hlt
   have hyx:leS y x:=by
    rcases Kk y x with q | q
    ·exact q
    ·rw [<-strLt_false] at q
     rw [q] at hlt
     cases hlt
   refine aS.mpr ⟨fun z hz=>?_,zH x l h0.2⟩
   rcases ac.mp ((zG x l).mem_iff.mp hz) with rfl | hz
   ·exact hyx
   ·exact h0.1 z hz
  ·rename_i hlt
   have hxy:leS x y:=strLt_false.mp (by cases e:uN y x with | true=>exact absurd e hlt | false=>rfl)
   refine aS.mpr ⟨fun z hz=>?_,h⟩
   rcases ac.mp hz with rfl | hz
   ·exact hxy
   ·exact zF hxy (h0.1 z hz)
theorem ji:∀ l,(jX l).Pairwise leS
 | []=>eD
 | x::l=>zH x _ (ji l)
theorem yw:∀ {l m:List Str},l.Perm m->l.Pairwise leS->m.Pairwise leS->l=m
 | [],m,p,_,_=>p.nil_eq
 | x::l,[],p,_,_=>absurd p.length_eq (by simp)
 | x::l,y::m,p,hl,hm=>by
  have a:=aS.mp hl
  have b:=aS.mp hm
  have exy:x=y:=by
   have h1:y∈x::l:=p.mem_iff.mpr (ai ..)
   have h2:x∈y::m:=p.mem_iff.mp (ai ..)
   rcases ac.mp h1 with e | e
   ·exact e.symm
   ·rcases ac.mp h2 with e' | e'
    ·exact e'
    ·exact Qx (a.1 y e) (b.1 x e')
  subst exy
  rw [yw p.cons_inv a.2 b.2]
theorem gR:∀ (x:Str) (l:List Str),risingS x l=true->(x::l).Pairwise leS
 | x,[],_=>List.pairwise_singleton _ _
 | x,y::l,h=>by
  have h:(!ltCps y.cps.toList x.cps.toList&&risingS y l)=true:=h
  rw [aR] at h
  have ih:=gR y l h.2
  have hxy:leS x y:=by
   have h1:=h.1
   rw [ltCps_eq] at h1
   unfold leS
   simpa using h1
  refine aS.mpr ⟨fun z hz=>?_,ih⟩
  rcases ac.mp hz with rfl | hz
  ·exact hxy
  ·exact zF hxy ((aS.mp ih).1 z hz)
theorem Vs:∀ (l:List Str),sortedS l=true->l.Pairwise leS
 | [],_=>eD
 | x::l,h=>gR x l h
theorem Kl (p:ss.Perm ks) (h:sortedS ss=true):ss=jX ks:=yw (p.trans (qR ks).symm) (Vs ss h) (ji ks)
noncomputable def zI:List D->Option (List Str)
 | []=>some []
 | .str x::l=>(zI l).map (x::·)
 | _::_=>none
noncomputable def xA:D->Option (List Str)
 | .lst ds=>zI ds
 | .tup ds=>zI ds
 | _=>none
noncomputable def qds (P:Program) (w:World) (p:Addr) (ks:List Str):HO:=.ext fun h=>SetS P w h p ks
theorem qcA (x:SetS P w h p ks):ObjOk P w H h p (qds P w p ks):=
 ⟨x,let ⟨_,_,_,e,_⟩:=x; ⟨_,e⟩,fun _ _ a k=>a.at k⟩
theorem Qy:∀ {vs:List V} {us:List Value} {ds:List D} {ss:List Str},IsL K F vs ds->Vals vs us->zI ds=some ss->StrsAre us ss/\∀ x∈ss,x.length<=sizeLine
 | [],[],[],ss,_,_,e=>by cases e; exact ⟨.nil,fun x h=>by cases h⟩
 | v::vs,u::us,d::ds,ss,.cons i il,.cons r rl,e=>by
  cases d with
  | str x=>
   cases q:zI ds with
   | none=>
    have e:(zI ds).map (x::·)=some ss:=e
    rw [q] at e
    cases e
   | some sl=>
    have e:(zI ds).map (x::·)=some ss:=e
    rw [q] at e
    cases e
    cases i with
    | str hz=>
     obtain ⟨t,rfl⟩:=r
     have ih:=Qy il rl q
     refine ⟨.cons x t ih.1,fun y hy=>?_⟩
     rcases ac.mp hy with rfl | hy
     ·exact hz
     ·exact ih.2 y hy
  | _=>cases e
variable {f fa:Sl->Out (D×Sl)}
section
variable {own:List Nat} {e:Expr} {ma:Mo} {pos:Pos}
theorem Km:∀ (l ks:List Str) {x:Str},x∈l.foldl vi ks->x∈ks\/x∈l
 | [],ks,x,h=>.inl h
 | y::l,ks,x,h=>by
  rcases Km l (vi ks y) h with q | q
  ·unfold vi at q
   split at q
   ·exact .inl q
   ·rcases aj.mp q with q | q
    ·exact .inl q
    ·exact .inr (by rw [au.mp q]; exact ai ..)
  ·exact .inr (aa _ q)
theorem qbk (hK:C.K=X.K) (hc:X.calm=true):wH X (.type "set") (fun xs H Q=>∃ x F dx ss,xs=[x]/\Same F H/\TopIs C.K F H x dx/\xA dx=some ss/\ss.length < 4000/\((∀ y∈ss,y.length<=sizeLine)->∀ p,H p=none->Q (.ref p) (upd H p (qds X.prog X.w p (ss.foldl vi []))))):=by
 intro pins s σ H xs us Q I r h
 obtain ⟨x,F,dx,ss,rfl,sb,tx,es,hl,q⟩:=h
 obtain ⟨u,rfl,ru⟩:=uB r
 have fin:(∀ y∈ss,y.length<=sizeLine)->∀ h' tk,SetS X.prog X.w h' s.heap.objs.size (ss.foldl vi [])->(∀ b o,s.heap.get? b=some o->h'.get? b=some o)->EP X pins σ Q (.ref s.heap.objs.size) { s with heap:=h',toks:=tk }:=fun hy h' tk hS kp=>
  ⟨.ref s.heap.objs.size,_,I.laid (t':=tk) kp (aB _) (qcA hS),rfl,q hy _ (I.hok.fresh (aB _))⟩
 cases dx with
 | lst ds=>
  obtain ⟨a,vs,rfl,hq,il⟩:=tx.lst sb
  cases ru
  rw [hK] at hq
  obtain ⟨its,rv,pl,hz⟩:=I.list hq
  obtain ⟨st,hy⟩:=Qy il rv es
  have hlt:a < s.heap.objs.size:=let ⟨o,_,e,_⟩:=pl; ap e
  have hn:its.length=ss.length:=st.length
  refine Ke (fun A1 Q1 E1 hA k=>?_) (fin hy)
  refine qaf (items:=its.toArray) (hA.trans (I.ok.hd hc)) (Kd (ak _ rfl)) (pl.isList.push _) (by simpa using st) (by rw [aw,hn]; unfold scanBound; omega) (aD hlt) fun h' tk hS kp=>k h' tk hS fun b o eb=>kp b o (aD (ap eb)) (ae _ eb)
 | tup ds=>
  obtain ⟨a,vs,rfl,hq,il⟩:=tx.tup sb
  cases ru
  rw [hK] at hq
  obtain ⟨its,rv,pl,hz⟩:=I.tuple hq
  obtain ⟨st,hy⟩:=Qy il rv es
  have hlt:a < s.heap.objs.size:=pl.lt
  have hn:its.length=ss.length:=st.length
  refine Ke (fun A1 Q1 E1 hA k=>?_) (fin hy)
  refine Xq (items:=its.toArray) (hA.trans (I.ok.hd hc)) (Kd (ak _ rfl)) (by obtain ⟨o,e,c⟩:=pl; exact ⟨o,ae _ e,c⟩) (by simpa using st) (by rw [aw,hn]; unfold scanBound; omega) (aD hlt) fun h' tk hS kp=>k h' tk hS fun b o eb=>kp b o (aD (ap eb)) (ae _ eb)
 | _=>cases es
theorem zJ:∀ {us:List Value} {ss:List Str},StrsAre us ss->Vals (ss.map V.str) us
 | _,_,.nil=>.nil
 | _,_,.cons y t h=>.cons ⟨t,rfl⟩ (zJ h)
theorem XA (hc:X.calm=true):wH X (.builtin "sorted") (fun xs H Q=>∃ a ks,xs=[.ref a]/\H a=some (qds X.prog X.w a ks)/\ks.length < 64/\∀ p,H p=none->Q (.ref p) (upd H p (.lst ((jX ks).map V.str)))):=by
 intro pins s σ H xs us Q I r h
 obtain ⟨a,ks,rfl,ha,h64,q⟩:=h
 obtain ⟨u,rfl,ru⟩:=uB r
 cases ru
 have hS:SetS X.prog X.w s.heap a ks:=(I.hok a _ ha).1
 refine UI (I.ok.hd hc) hS h64 fun h1 h' dr tk vs e ss k1 k2 hp st pm so=>?_
 rw [Kl pm so] at st
 have I1:Inv X pins σ H { s with heap:=h1,drawn:=dr,toks:=tk }:=qhD I k1
 have hz:(jX ks).length<=sizeLine:=by
  rw [(qR ks).length_eq,sizeLine_eq]
  omega
 refine ⟨.ref h1.objs.size,_,I1.laid (t':=tk) (o:=.lst ((jX ks).map V.str)) k2 (aB _) ⟨by rw [ay]; exact hz,vs.toList,e,zJ st,by simpa [seqObj] using hp⟩,rfl,q _ (I1.hok.fresh (aB _))⟩
theorem qcB:wH X (.builtin "len") (fun xs H Q=>∃ a ks,xs=[.ref a]/\H a=some (qds X.prog X.w a ks)/\Q (.int ks.length) H):=by
 intro pins s σ H xs us Q I r h
 obtain ⟨a,ks,rfl,ha,q⟩:=h
 obtain ⟨u,rfl,ru⟩:=uB r
 cases ru
 obtain ⟨es,ep,t,ho,d⟩:SetS X.prog X.w s.heap a ks:=(I.hok a _ ha).1
 have hb:=d.bd
 refine call_len_set ho ⟨rfl,rfl,rfl⟩ rfl d.fits (by unfold scanBound at hb; omega) ?_
 exact ⟨.int ks.length,H,I.tok _,⟨_,by rw [d.size]⟩,q⟩
theorem Vt {m:Mo} {Q R:VK} (h:tE C own m f σ H Q) (i:∀ v H1,Q v H1->R v H1):tE C own m f σ H R:=by
 obtain ⟨F,ρ,rp,po⟩:=h
 refine ⟨F,ρ,rp,?_⟩
 cases q:f ρ with
 | ok p=>
  rw [q] at po
  obtain ⟨d,ρ1⟩:=p
  exact fun v F1 H1 a b c=>i _ _ (po v F1 H1 a b c)
 | exc c ρ1=>
  rw [q] at po
  exact po
 | bad=>
  rw [q] at po
  exact po.elim
noncomputable def uq (d:D):Out D:=match xA d with
 | some ss=>if ss.length < 64 then .ok (.lst ((jX (ss.foldl vi [])).map D.str)) else .bad
 | none=>.bad
noncomputable def Qz (d:D):Out D:=match xA d with
 | some ss=>if ss.length < 4000 then .ok (.int (ss.foldl vi []).length) else .bad
 | none=>.bad
theorem QA:∀ {ss:List Str},(∀ x∈ss,x.length<=sizeLine)->IsL K F (ss.map V.str) (ss.map D.str)
 | [],_=>.nil
 | x::l,h=>.cons (.str (h x (ai ..))) (QA fun y hy=>h y (aa _ hy))
theorem gS {p p2 pos2:Pos} (hK:C.K=X.K) (hc:X.calm=true) (hg:Gl X "sorted") (hm:X.mg "sorted"=none) (hv:bootBuiltins "sorted"=some (.builtin "sorted")) (hg2:Gl X "set") (hm2:X.mg "set"=none) (hv2:bootBuiltins "set"=some (.type "set")) (ha:PE X e (tE C own ma fa))
  (he:starEach [e] X.env=[(false,eval e X.env)]:=by exact qV rfl) (he2:starEach [.Call (.Name "set" p2) [e] [] pos2] X.env=[(false,eval (.Call (.Name "set" p2) [e] [] pos2) X.env)]:=by exact qV rfl) :
  PE X (.Call (.Name "sorted" p) [.Call (.Name "set" p2) [e] [] pos2] [] pos) (tE C own .fr (d1 uq fa)):=by
 refine jG (vS (XA hc) hg hm hv (qS (wJ (qbk hK hc) hg2 hm2 hv2 (qS ha jz he) (by decide) (by decide) (by rw [he]; rfl) rfl) jz he2) (by decide) (by decide) (by rw [he2]; rfl) rfl) fun σ H Q h=>?_
 refine Vt (yQ (ma:=ma) h) fun x H1 ⟨x',F,dx,ex,sb,tx,po⟩=>?_
 cases ex
 unfold uq at po
 cases es:xA dx with
 | none=>
  rw [es] at po
  exact po.elim
 | some ss=>
  rw [es] at po
  by_cases hl:ss.length < 64
  ·have po:PoV C .fr F H1 (if ss.length < 64 then .ok (.lst ((jX (ss.foldl vi [])).map D.str)) else .bad) Q:=po
   rw [if_pos hl] at po
   refine ⟨x,F,dx,ss,rfl,sb,tx,es,by omega,fun hy q hq=>⟨q,_,rfl,qr,?_,fun l hl2=>?_⟩⟩
   ·have:=yv ss []
    rw [bv] at this
    omega
   ·obtain ⟨s1,c1,f1⟩:=kX (u:=qds X.prog X.w q (ss.foldl vi [])) sb hq
    obtain ⟨s2,c2,f2⟩:=kX (u:=.lst ((jX (ss.foldl vi [])).map V.str)) s1 hl2
    have hl1:H1 l=none:=by
     by_cases z:l=q
     ·rw [z] at hl2
      rw [qr] at hl2
      cases hl2
     ·rwa [qB z] at hl2
    refine po _ _ _ s2 (c1.trans' c2) ⟨l,rfl,hl1,f2,_,qr,QA fun y hy2=>hy y ?_⟩
    rcases Km ss [] ((qR _).mem_iff.mp hy2) with z | z
    ·cases z
    ·exact z
  ·have po:PoV C .fr F H1 (if ss.length < 64 then .ok (.lst ((jX (ss.foldl vi [])).map D.str)) else .bad) Q:=po
   rw [if_neg hl] at po
   exact po.elim
theorem XB {p p2 pos2:Pos} (hK:C.K=X.K) (hc:X.calm=true) (hg:Gl X "len") (hm:X.mg "len"=none) (hv:bootBuiltins "len"=some (.builtin "len")) (hg2:Gl X "set") (hm2:X.mg "set"=none) (hv2:bootBuiltins "set"=some (.type "set")) (ha:PE X e (tE C own ma fa))
  (he:starEach [e] X.env=[(false,eval e X.env)]:=by exact qV rfl) (he2:starEach [.Call (.Name "set" p2) [e] [] pos2] X.env=[(false,eval (.Call (.Name "set" p2) [e] [] pos2) X.env)]:=by exact qV rfl) :
  PE X (.Call (.Name "len" p) [.Call (.Name "set" p2) [e] [] pos2] [] pos) (tE C own .sh (d1 Qz fa)):=by
 refine jG (vS qcB hg hm hv (qS (wJ (qbk hK hc) hg2 hm2 hv2 (qS ha jz he) (by decide) (by decide) (by rw [he]; rfl) rfl) jz he2) (by decide) (by decide) (by rw [he2]; rfl) rfl) fun σ H Q h=>?_
 refine Vt (yQ (ma:=ma) h) fun x H1 ⟨x',F,dx,ex,sb,tx,po⟩=>?_
 cases ex
 unfold Qz at po
 cases es:xA dx with
 | none=>
  rw [es] at po
  exact po.elim
 | some ss=>
  rw [es] at po
  have po:PoV C .sh F H1 (if ss.length < 4000 then .ok (.int (ss.foldl vi []).length) else .bad) Q:=po
  by_cases hl:ss.length < 4000
  ·rw [if_pos hl] at po
   refine ⟨x,F,dx,ss,rfl,sb,tx,es,hl,fun hy q hq=>⟨q,_,rfl,qr,?_⟩⟩
   obtain ⟨s1,c1,f1⟩:=kX (u:=qds X.prog X.w q (ss.foldl vi [])) sb hq
   exact po _ _ _ s1 c1 (.int _)
  ·rw [if_neg hl] at po
   exact po.elim
end
variable {β:Type}
@[simp] theorem kz {a:α} {k:α->Out β}:(Out.ok a).bind k=k a:=rfl
@[simp] theorem qg5 {c:Str} {o:Sl} {k:α->Out β}:(Out.exc c o:Out α).bind k=.exc c o:=rfl
@[simp] theorem qg6 {k:α->Out β}:(Out.bad:Out α).bind k=.bad:=rfl
@[simp] theorem qgp {a:α}:(Out.ok a).plain=.ok a:=rfl
@[simp] theorem qg7:(Out.bad:Out α).plain=.bad:=rfl
variable {c:Prop}
@[simp] theorem qg8 [Decidable c] {a b:Out α} {k:α->Out β}:(if c then a else b).bind k=if c then a.bind k else b.bind k:=by split <;> rfl
@[simp] theorem qg9 [Decidable c] {a b:Out α}:(if c then a else b).plain=if c then a.plain else b.plain:=by split <;> rfl
noncomputable def qaj (d:D) (A B:Out α):Out α:=match d with
 | .bl b=>if b=true then A else B
 | _=>.bad
@[simp] theorem qfB {A B:Out α}:qaj (.bl b) A B=if b=true then A else B:=rfl
noncomputable def qha (p:D×Sl):Out (Bool×Sl):=match p.1 with
 | .bl b=>.ok (b,p.2)
 | _=>.bad
variable {ρ:Sl}
@[simp] theorem qgq:qha (.bl b,ρ)=.ok (b,ρ):=rfl
noncomputable def Yg (ms:List PM):Out (Fl×Sl)->Out (D×List D)
 | .ok (.nx,ρ)=>.ok (.non,qA ρ 0 ms)
 | .ok (.rt d,ρ)=>.ok (d,qA ρ 0 ms)
 | .ok _=>.bad
 | .exc c ρ=>.exc c ((qA ρ 0 ms).map some)
 | .bad=>.bad
variable {ms:List PM}
theorem runD_ap {f:Sl->Out (Fl×Sl)} {ds:List D}:km N ms f ds=Yg ms (f (qy N ds)):=by
 unfold km Yg
 rfl
@[simp] theorem qhb:Yg ms (.ok (.rt d,ρ))=.ok (d,qA ρ 0 ms):=rfl
@[simp] theorem qhc:Yg ms (.ok (.nx,ρ))=.ok (.non,qA ρ 0 ms):=rfl
@[simp] theorem qgr {c:Str}:Yg ms (.exc c ρ)=.exc c ((qA ρ 0 ms).map some):=rfl
@[simp] theorem qgs [Decidable c] {a b:Out (Fl×Sl)}:Yg ms (if c then a else b)=if c then Yg ms a else Yg ms b:=by split <;> rfl
noncomputable def UJ (as:List AK) (ρ:Sl):Out (D×List D)->Out (D×Sl)
 | .ok q=>.ok (q.1,jl as q.2 ρ)
 | .exc c o=>.exc c (jl as (o.map (·.getD .non)) ρ)
 | .bad=>.bad
variable {as:List AK}
@[simp] theorem qfC {q:D×List D}:UJ as ρ (.ok q)=.ok (q.1,jl as q.2 ρ):=rfl
@[simp] theorem qeu {c:Str} {o:Sl}:UJ as ρ (.exc c o)=.exc c (jl as (o.map (·.getD .non)) ρ):=rfl
@[simp] theorem qev [Decidable c] {a b:Out (D×List D)}:UJ as ρ (if c then a else b)=if c then UJ as ρ a else UJ as ρ b:=by split <;> rfl
variable {ρ:Sl}
@[simp] theorem XC:qe i ρ=match ρ[i]? with | some (some d)=>.ok (d,ρ) | _=>.bad:=rfl
@[simp] theorem qhE:dC d ρ=.ok (d,ρ):=rfl
variable {gg:D->Sl->Out Sl}
section
variable {g g':D->D->Out D} {g1:D->Out D} {fb fc:Sl->Out (D×Sl)} {ft fu:Sl->Out (Bool×Sl)} {fr:Sl->Out (List D×Sl)} {fs ft1:Sl->Out (Fl×Sl)} {fi:Sl->Out (List D×Sl)} {G:List D->Out (D×List D)}
@[simp] theorem UK:d1 g1 fa ρ=(fa ρ).bind fun p=>(g1 p.1).plain.bind fun d=>.ok (d,p.2):=rfl
@[simp] theorem qgt:d2 g fa fb ρ=(fa ρ).bind fun p=>(fb p.2).bind fun q=>(g p.1 q.1).plain.bind fun d=>.ok (d,q.2):=rfl
@[simp] theorem qgu:gy f ρ=(f ρ).bind fun p=>(yg p.1).bind fun b=>.ok (b,p.2):=rfl
@[simp] theorem qfD:jg f ρ=(f ρ).bind qha:=rfl
@[simp] theorem qgv:Vg ft ρ=(ft ρ).bind fun p=>.ok (!p.1,p.2):=rfl
@[simp] theorem qfE:qgn f ρ=(jg f ρ).bind fun p=>.ok (.bl (!p.1),p.2):=rfl
@[simp] theorem qgw:qb8 ft fu ρ=(ft ρ).bind fun p=>if p.1=true then fu p.2 else .ok (false,p.2):=rfl
@[simp] theorem qhd:dOr ft fu ρ=(ft ρ).bind fun p=>if p.1=true then .ok (true,p.2) else fu p.2:=rfl
@[simp] theorem qfF:Vh fa fb ρ=(fa ρ).bind fun p=>qaj p.1 (fb p.2) (.ok (.bl false,p.2)):=by
 unfold Vh
 cases fa ρ with
 | ok p=>
  obtain ⟨d,r⟩:=p
  cases d <;> try rfl
  rename_i b
  cases b <;> rfl
 | exc c o=>rfl
 | bad=>rfl
@[simp] theorem qgx:qg0 fa fb ρ=(fa ρ).bind fun p=>qaj p.1 (.ok (.bl true,p.2)) (fb p.2):=by
 unfold qg0
 cases fa ρ with
 | ok p=>
  obtain ⟨d,r⟩:=p
  cases d <;> try rfl
  rename_i b
  cases b <;> rfl
 | exc c o=>rfl
 | bad=>rfl
@[simp] theorem qhe:dIf ft fa fb ρ=(ft ρ).bind fun p=>if p.1=true then fa p.2 else fb p.2:=rfl
@[simp] theorem qew:yh g g' fa fb fc ρ=(fa ρ).bind fun p=>(fb p.2).bind fun q=>(g p.1 q.1).plain.bind fun z=>qaj z ((fc q.2).bind fun r=>(g' q.1 r.1).plain.bind fun d=>.ok (d,r.2)) (.ok (.bl false,q.2)):=by
 unfold yh
 congr 1
 funext p
 congr 1
 funext q
 congr 1
 funext z
 cases z <;> try rfl
 rename_i b
 cases b <;> rfl
@[simp] theorem qcC:qC ρ=.ok ([],ρ):=rfl
@[simp] theorem qak:qd fa fr ρ=(fa ρ).bind fun p=>(fr p.2).bind fun q=>.ok (p.1::q.1,q.2):=rfl
@[simp] theorem qal:jO fr ρ=(fr ρ).bind fun q=>.ok (D.non::q.1,q.2):=rfl
@[simp] theorem qgy:vj fr ρ=(fr ρ).bind fun p=>if p.1.length<=sizeLine then .ok (.tup p.1,p.2) else .bad:=rfl
@[simp] theorem qgz:wL fr ρ=(fr ρ).bind fun p=>if p.1.length<=sizeLine then .ok (.lst p.1,p.2) else .bad:=rfl
@[simp] theorem qfG:jN ρ=.ok (.nx,ρ):=rfl
@[simp] theorem Vu:qW fs ft1 ρ=(fs ρ).bind fun p=>match p.1 with | .nx=>ft1 p.2 | _=>.ok p:=by
 show _=_
 unfold qW
 cases fs ρ with
 | ok p=>obtain ⟨fl,r⟩:=p; cases fl <;> rfl
 | exc c o=>rfl
 | bad=>rfl
@[simp] theorem qex:sIf ft fs ft1 ρ=(ft ρ).bind fun p=>if p.1=true then fs p.2 else ft1 p.2:=rfl
@[simp] theorem qam:kD f ρ=(f ρ).bind fun p=>.ok (.nx,p.2):=rfl
@[simp] theorem zK:jL f ρ=(f ρ).bind fun p=>.ok (.rt p.1,p.2):=rfl
@[simp] theorem zL:jE i f ρ=(f ρ).bind fun p=>if i < p.2.length then .ok (.nx,p.2.set i (some p.1)) else .bad:=rfl
@[simp] theorem qan:qv as G fr ρ=(fr ρ).bind fun p=>match qE as p.1 p.2 with | some ds=>UJ as p.2 (G ds) | none=>.bad:=rfl
@[simp] theorem qgA:qhC f ρ=(f ρ).bind fun p=>(qed p.1).bind fun ds=>.ok (ds,p.2):=rfl
@[simp] theorem qgB:kG f ρ=(f ρ).bind fun p=>(jK p.1).bind fun ds=>.ok (ds,p.2):=rfl
@[simp] theorem qhf:gNm i d ρ=if i < ρ.length then .ok (ρ.set i (some d)) else .bad:=rfl
@[simp] theorem kq:gA fi gg fs ρ=(fi ρ).bind fun p=>vk gg fs p.1 p.2:=rfl
@[simp] theorem qgC:qgf f gg ρ=(f ρ).bind fun p=>match gg p.1 p.2 with | .ok ρ'=>.ok (.nx,ρ') | _=>.bad:=rfl
@[simp] theorem qcD {gg:List D->D->Out (List D)}:zz i gg f ρ=if wQ ρ[i]?=true then (f ρ).bind fun p=>(match p.2[i]? with | some (some (.lst xs))=>(match gg xs p.1 with | .ok ys=>.ok (.non,p.2.set i (some (.lst ys))) | _=>.bad) | _=>.bad) else .bad:=rfl
@[simp] theorem qhg:ftT ρ=.ok (true,ρ):=rfl
end
end L2.D2
namespace L2.D2
open PySem PySem.Spec PyProof.Rows
def qdp (i j:Int):Prop:=(0<=j/\j<=64)/\-4611686018427387904 < i/\i < 4611686018427387904
instance:∀ i j,Decidable (qdp i j):=fun i j=>inferInstanceAs (Decidable (_/\_))
variable {X:Cx} {C:Ct}
section
theorem qba:OpR X (binaryOp .Pow) (rI qdp fun i j=>.int (i ^ j.toNat)):=opI fun i j _ _ _ _ _ hc q=>by
 obtain ⟨⟨h0,h1⟩,h2,h3⟩:=hc
 exact pow_int_small h0 (by omega) (by omega) q
noncomputable def qgD:D->D->Out D:=vV fun i j=>if qdp i j then .ok (.int (i ^ j.toNat)) else .bad
theorem qey:OpD X C .sh (binaryOp .Pow) qgD:=Wi qba fun _ _ _=>.int _
end
noncomputable def XD (sep:Str):D->Out D
 | .lst ds=>match zI ds with
  | some ss=>if (ss.map (·.length)).sum+ss.length * sep.length<=16777216/\(eS sep ss).length<=sizeLine then .ok (.str (eS sep ss)) else .bad
  | none=>.bad
 | _=>.bad
variable {own:List Nat} {e:Expr}
section
variable {fe:Sl->Out (D×Sl)} {m:Mo} {apos cpos:Pos} {sep:Str}
theorem qcE:MtR X "str.join" (fun x vs H Q=>∃ (sep:Str) (a:Addr) (xs:List V) (ss:List Str),x=.str sep/\vs=[.ref a]/\SqL X.K H a xs/\(∀ us,Vals xs us->StrsAre us ss)/\(ss.map (·.length)).sum+ss.length * sep.length<=16777216/\Q (.str (eS sep ss)) H):=by
 intro pins s σ H x vs v us Q I rx rv h
 obtain ⟨sep,a,xs,ss,rfl,rfl,hq,hb,hz,q⟩:=h
 obtain ⟨t,rfl⟩:=rx
 obtain ⟨u,rfl,ru⟩:=rv.one
 cases ru
 obtain ⟨its,r,pl,_⟩:=I.list hq
 obtain ⟨o,n,ho,hc,hd,hdt⟩:=pl
 exact join_list ⟨o,ho,hc,n,hdt⟩ (by simpa using hb its r) hz fun t' k=>⟨.str (eS sep ss),H,I.tok _,⟨_,rfl⟩,q⟩
theorem qcF {c1 c2} (hK:C.K=X.K) (he:PE X e (tE C own m fe))
  (hbase:attributeBase (.Constant (.str sep) c1 c2) "join" X.env (eval (.Constant (.str sep) c1 c2) X.env)=eval (.Constant (.str sep) c1 c2) X.env:=by rfl)
  (hfew:((backTo cpos (starEach [e] X.env)).all (fun x=>!x.1)&&(backToKw cpos (keywordEach [] X.env)).all (fun x=>x.1.isSome)
   && decide ([e].length+([]:List Keyword).length+(if ([]:List Keyword).isEmpty then 0 else 1) < 30))=true:=by exact vU rfl)
  (hline:(apos.endLine == cpos.line)=true:=by rfl) (hs:starEach [e] X.env=[(false,eval e X.env)]:=by exact qV rfl) :
  PE X (.Call (.Attribute (.Constant (.str sep) c1 c2) "join" apos) [e] [] cpos) (tE C own .sh (d1 (XD sep) fe)):=by
 refine jG (Us PySem.F.plainAttrs_str PySem.F.slot_str_join PySem.F.type_str_join qcE qa7 (qS he jz hs) hbase hfew hline hs rfl) fun σ H Q h=>?_
 refine ⟨rfl,?_⟩
 obtain ⟨F,ρ,rp,h⟩:=Vd (ma:=m) h
 refine ⟨F,ρ,rp,?_⟩
 cases q:fe ρ with
 | ok p=>
  rw [q] at h
  obtain ⟨d,ρ1⟩:=p
  intro v F1 H1 rp1 c1 mo1
  obtain ⟨F2,dx,sb,tx,po⟩:=h v F1 H1 rp1 c1 mo1
  cases dx <;> try exact po.elim
  rename_i ds
  unfold XD at po
  cases q2:zI ds with
  | none=>simp only [q2] at po; exact po.elim
  | some ss=>
   simp only [q2] at po
   by_cases hz:(ss.map (·.length)).sum+ss.length * sep.length<=16777216/\(eS sep ss).length<=sizeLine
   ·rw [if_pos hz] at po
    obtain ⟨a,vs,rfl,hq,t⟩:=tx.lst sb
    have hq':SqL X.K H1 a vs:=by rw [<-hK]; exact hq
    exact ⟨sep,a,vs,ss,rfl,rfl,hq',fun us r=>(Qy t r q2).1,hz.1,po _ F2 H1 sb .refl (.str hz.2)⟩
   ·rw [if_neg hz] at po
    exact po.elim
 | exc c=>rw [q] at h; exact h
 | bad=>rw [q] at h; exact h.elim
end
def qez (i j:Int):Prop:=(-(2 ^ 62)<=i/\i < 2 ^ 62)/\-(2 ^ 62)<=j/\j < 2 ^ 62
instance:∀ i j,Decidable (qez i j):=fun i j=>inferInstanceAs (Decidable (_/\_))
variable {a:Expr} {fa:Sl->Out (D×Sl)} {ma:Mo} {pos:Pos} {lo:Int} {K:Frag} {F:Hp}
section
variable {b tg:Expr} {fb:Sl->Out (D×Sl)} {mb:Mo}
theorem XE:∀ {xs:List V} {us:List Value},xs.length=us.length->(∀ (j:Nat) (x:V) (u:Value),xs[j]?=some x->us[j]?=some u->RelV x u)->Vals xs us
 | [],[],_,_=>.nil
 | x::xs,u::us,hl,h=>.cons (h 0 x u rfl rfl) (XE (Nat.succ.inj hl) fun j y w a b=>h (j+1) y w (by simpa using a) (by simpa using b))
 | [],_::_,hl,_=>nomatch hl
 | _::_,[],hl,_=>nomatch hl
noncomputable def qfH (p:Addr) (lo hi:Int):HO:=.ext fun h=>∃ t u v,IsRange h p lo hi 1 t u v
theorem qcG {P:Program} {w:World} {H:Hp} {h:Heap} {p:Addr} {hi:Int} {t u v:Tok} (x:IsRange h p lo hi 1 t u v):ObjOk P w H h p (qfH p lo hi):=
 ⟨⟨t,u,v,x⟩,⟨_,x⟩,fun _ _ ⟨t,u,v,x⟩ k=>⟨t,u,v,k _ x⟩⟩
theorem XF:wH X (.type "range") (fun xs H Q=>∃ j:Int,xs=[.int j]/\∀ p,H p=none->Q (.ref p) (upd H p (qfH p 0 j))):=by
 intro pins s σ H xs us Q I r h
 obtain ⟨j,rfl,q⟩:=h
 obtain ⟨u,rfl,ru⟩:=uB r
 obtain ⟨t,rfl⟩:=ru
 exact call_range_1 ⟨.ref s.heap.objs.size,_,I.laid (t':=s.toks+1+1) (fun b o e=>ae _ e) (aB _) (qcG (IsRange.new ..)),rfl,q _ (I.hok.fresh (aB _))⟩
theorem qao (hc:X.calm=true):wH X (.type "list") (fun xs H Q=>∃ r lo hi,xs=[.ref r]/\H r=some (qfH r lo hi)/\(qez lo hi/\hi - lo<=1000000)/\∀ p,H p=none->Q (.ref p) (upd H p (.lst ((aJ (hi - lo).toNat).map fun k=>V.int (lo+(k:Nat)))))):=by
 intro pins s σ H xs us Q I r h
 obtain ⟨a,lo,hi,rfl,ha,hz,q⟩:=h
 obtain ⟨u,rfl,ru⟩:=uB r
 cases ru
 obtain ⟨t,u,v,hr⟩:=(I.hok a _ ha).1
 have e2:Builtin.Range.rangeSize lo hi 1=(((hi - lo).toNat:Nat):Int):=by rw [rangeSize_one]; split <;> omega
 refine call_list_range (n:=(hi - lo).toNat) (I.ok.hd hc) hr (small_one hz.1.1.1 hz.1.1.2 hz.1.2.1 hz.1.2.2) e2 (by omega) fun h' tk acc c k hp hi2=>?_
 refine ⟨.ref s.heap.objs.size,_,I.laid (t':=tk) (o:=.lst ((aJ (hi - lo).toNat).map fun k=>V.int (lo+(k:Nat)))) k (aB _) ⟨by rw [ay,cm,sizeLine_eq]; omega,acc.toList,c,?_,by simpa using hp⟩,rfl,q _ (I.hok.fresh (aB _))⟩
 refine XE (by rw [ay,cm,bH,hi2.1]) fun j x w ex ew=>?_
 rw [aF] at ex
 obtain ⟨k,ek,rfl⟩:=aO.mp ex
 obtain ⟨hj,rfl⟩:=aA.mp ek
 obtain ⟨t,rfl⟩:=hi2.2 j w (by simpa using ew)
 exact ⟨t,by simp⟩
noncomputable def yx:D->Out D
 | .int j=>if qez 0 j/\j - 0<=1000000 then .ok (.lst (xx 0 (j - 0).toNat)) else .bad
 | _=>.bad
theorem XG:∀ l:List Nat,IsL K F (l.map fun k=>V.int (lo+(k:Nat))) (l.map fun k=>D.int (lo+(k:Nat)))
 | []=>.nil
 | k::l=>.cons (.int _) (XG l)
theorem UL {p p2 pos2:Pos} (hc:X.calm=true) (hg:Gl X "list") (hm:X.mg "list"=none) (hv:bootBuiltins "list"=some (.type "list")) (hg2:Gl X "range") (hm2:X.mg "range"=none) (hv2:bootBuiltins "range"=some (.type "range")) (ha:PE X e (tE C own ma fa))
  (he:starEach [e] X.env=[(false,eval e X.env)]:=by exact qV rfl) (he2:starEach [.Call (.Name "range" p2) [e] [] pos2] X.env=[(false,eval (.Call (.Name "range" p2) [e] [] pos2) X.env)]:=by exact qV rfl) :
  PE X (.Call (.Name "list" p) [.Call (.Name "range" p2) [e] [] pos2] [] pos) (tE C own .fr (d1 yx fa)):=by
 refine jG (wJ (qao hc) hg hm hv (qS (wJ XF hg2 hm2 hv2 (qS ha jz he) (by decide) (by decide) (by rw [he]; rfl) rfl) jz he2) (by decide) (by decide) (by rw [he2]; rfl) rfl) fun σ H Q h=>?_
 refine Vt (yQ (ma:=ma) h) fun x H1 ⟨x',F,dx,ex,sb,tx,po⟩=>?_
 cases ex
 cases dx <;> try exact po.elim
 rename_i j
 unfold yx at po
 by_cases hz:qez 0 j/\j - 0<=1000000
 ·simp only [if_pos hz] at po
  obtain rfl:=tx.int
  refine ⟨j,rfl,fun q hq=>⟨q,0,j,rfl,qr,hz,fun l hl2=>?_⟩⟩
  obtain ⟨s1,c1,f1⟩:=kX (u:=qfH q 0 j) sb hq
  obtain ⟨s2,c2,f2⟩:=kX (u:=.lst ((aJ (j - 0).toNat).map fun k=>V.int (0+(k:Nat)))) s1 hl2
  have hl1:H1 l=none:=by
   by_cases z:l=q
   ·rw [z] at hl2
    rw [qr] at hl2
    cases hl2
   ·rwa [qB z] at hl2
  exact po _ _ _ s2 (c1.trans' c2) ⟨l,rfl,hl1,f2,_,qr,XG _⟩
 ·simp only [if_neg hz] at po
  exact po.elim
end
noncomputable def Ite (K:Frag) (a:Addr) (xs:List V):It:=
 ⟨fun i H=>i < xs.length/\SqL K H a xs,fun i H v H'=>∃ x p,xs[i]?=some x/\H p=none/\v=.ref p/\H'=upd H p (.tup [.int (i:Nat),x]),fun i H=>xs.length<=i/\SqL K H a xs⟩
theorem XH {P:Program} {w:World} {K:Frag} {elts:List Expr} {x1} {pos:Pos} (b a:Nat) (xs:List V) (h1:a < b) :
  Turn P w K (.Tuple elts x1 pos) (Ite K a xs) [b+1,b] (b+1) (fun i h=>(∃ old,IsEnum h (b+1) b i old)/\h.IsListIter b a i) where
 mem:=by simp
 obj:=fun i h st c hc=>by
  obtain ⟨⟨old,he⟩,o,ho,hcl,hd⟩:=st
  simp only [ac,bb,or_false] at hc
  rcases hc with rfl | rfl
  ·exact ⟨_,he,fun v z=>by cases z⟩
  ·exact ⟨o,ho,fun v z=>by rw [hd] at z; cases z⟩
 keep:=fun i h h' st k=>by
  obtain ⟨⟨old,he⟩,o,ho,hcl,hd⟩:=st
  exact ⟨⟨old,k _ (by simp) _ he⟩,o,k _ (by simp) _ ho,hcl,hd⟩
 item:=by
  intro X hP hw hK hc i pins s σ H E I hf st hg
  subst hP hw hK
  obtain ⟨⟨old,he⟩,hit⟩:=st
  obtain ⟨hl,q⟩:=hg
  obtain ⟨its,r,pl,_⟩:=I.list q
  have hi:i < its.length:=by rw [<-r.length]; exact hl
  have hx:its.toArray[i]?=some its[i]:=by simp [hi]
  refine wpAny_pyNext_enum_item he hit pl.isList hx (Nat.succ_ne_self b) fun h' eo it' tp hz kp=>?_
  refine ⟨_,rfl,wpAny_letOwnedTupleGo_enum eo fun hq e2 sb2=>?_⟩
  obtain ⟨x,ex,rx⟩:=Xz r (aC hi)
  have hT:H s.heap.objs.size=none:=I.hok.fresh (aB _)
  have lt1:b+1 < s.heap.objs.size:=ap he
  have fT:∀ c∈[b+1,b],c≠s.heap.objs.size:=fun c hc=>by
   simp only [ac,bb,or_false] at hc
   have lt':b+1 < s.heap.objs.size:=lt1
   generalize s.heap.objs.size=m at lt'
   intro z
   omega
  have I1:Inv X pins σ (upd H s.heap.objs.size (.tup [.int (i:Nat),x])) { s with heap:=s.heap.push { cls:=.type "tuple",data:=.seq #[.int i s.toks,its[i]] } }:=
   I.laid (t':=s.toks) (fun _ _ e=>ae _ e) (aB _) ⟨⟨by simp only [ao,bv]; rw [sizeLine_eq]; decide,_,ak _ rfl,rfl⟩,[.int i s.toks,its[i]],.cons ⟨_,rfl⟩ (.cons rx .nil),⟨_,ak _ rfl,rfl,_,rfl⟩⟩
  have I2:Inv X pins σ (upd H s.heap.objs.size (.tup [.int (i:Nat),x])) { s with heap:=hq,toks:=s.toks+1 }:=by
   refine Xy (s:={ s with heap:=s.heap.push { cls:=.type "tuple",data:=.seq #[.int i s.toks,its[i]] } }) (ch:=[b+1,b]) I1 (fun c o nc e=>?_) fun c hc=>⟨by rw [qB (fT c hc)]; exact (hf c hc).1,(hf c hc).2⟩
   simp only [ac,bb,or_false,not_or] at nc
   rw [sb2.2 c nc.1]
   by_cases ec:c=s.heap.objs.size
   ·subst ec
    have e3:(s.heap.push ({ cls:=.type "tuple",data:=.seq #[.int i s.toks,its[i]] }:Obj)).get? s.heap.objs.size=some { cls:=.type "tuple",data:=.seq #[.int i s.toks,its[i]] }:=ak _ rfl
    rw [show (s.heap.push ({ cls:=.type "tuple",data:=.seq #[.int i s.toks,its[i]] }:Obj)).get? s.heap.objs.size=some o from e] at e3
    rw [e3]
    exact tp
   ·have e4:s.heap.get? c=some o:=by
     have:=e
     rwa [show (s.heap.push ({ cls:=.type "tuple",data:=.seq #[.int i s.toks,its[i]] }:Obj)).get? c=s.heap.get? c from Heap.get?_push_ne _ _ _ ec] at this
    exact kp c o nc.1 nc.2 e4
  refine ⟨.ref s.heap.objs.size,_,I2,rfl,⟨x,_,ex,hT,rfl,rfl⟩,⟨⟨_,by simpa using e2⟩,?_⟩,fun c hc=>by rw [qB (fT c hc)]; exact (hf c hc).1⟩
  obtain ⟨o,ho,hcl,hd⟩:=it'
  exact ⟨o,(sb2.2 _ (Nat.succ_ne_self b).symm).trans ho,hcl,hd⟩
 done:=by
  intro X hP hw hK hc i pins s σ H E I hf st hg
  subst hP hw hK
  obtain ⟨⟨old,he⟩,hit⟩:=st
  obtain ⟨hl,q⟩:=hg
  obtain ⟨its,r,pl,_⟩:=I.list q
  refine wpAny_pyNext_enum_end (I.ok.hd hc) he hit pl.isList (by simp; rw [<-r.length]; exact hl) fun h' ex=>⟨rfl,Xy (t':=s.toks) (ch:=[b+1,b]) I (fun c o nc e=>?_) hf⟩
  simp only [ac,bb,or_false,not_or] at nc
  exact ex c o nc.2 e
 self:=fun _ _ _ _ _ st h=>wpAny_pyIter_enum st.1.choose_spec h
theorem XI:bootBuiltins "enumerate"=some (.type "enumerate"):=by decide +kernel
noncomputable def QB (xs:List D):List D:=(xs.zipIdx).map fun p=>.tup [.int (p.2:Nat),p.1]
noncomputable def UM (f:Sl->Out (D×Sl)):Sl->Out (List D×Sl):=fun ρ=>(f ρ).bind fun p=>match p.1 with
 | .lst xs=>.ok (QB xs,p.2)
 | _=>.bad
theorem qeA {a:Addr} {xs:List V} {ds:List D} (p:SqL K F a xs) (t:IsL K F xs ds):ItIs K F (Ite K a xs) (QB ds) where
 go:=fun i H hi s=>by
  unfold QB at hi
  rw [ay,List.length_zipIdx] at hi
  exact ⟨by rw [t.length]; exact hi,s.seq p⟩
 yld:=fun i Fi H v H' d e s1 s2 y=>by
  obtain ⟨x,q,hx,hn,rfl,rfl⟩:=y
  obtain ⟨d1,e1,i1⟩:=t.get hx
  have ed:d=.tup [.int (i:Nat),d1]:=by
   unfold QB at e
   rw [aF,List.getElem?_zipIdx,e1] at e
   simpa using e.symm
  subst ed
  obtain ⟨g1,g2⟩:=yR (u:=.tup [.int (i:Nat),x]) s2 hn
  exact ⟨_,g2,g1,.tup (.of qr) (.cons (.int _) (.cons ((i1.mono s1).mono g2.grow) .nil))⟩
 stop:=fun i H hi s=>by
  unfold QB at hi
  rw [ay,List.length_zipIdx] at hi
  exact ⟨by rw [t.length]; exact hi,s.seq p⟩
section
theorem qcH {ta:TA} {p tpos:Pos} {elts:List Expr} {x1} (hg:Gl X "enumerate") (hm:X.mg "enumerate"=none) (ha:PA X [a] ta) (hs:starEach [a] X.env=[(false,eval a X.env)]) :
  PI X (.Tuple elts x1 tpos) (.Call (.Name "enumerate" p) [a] [] pos) (fun σ H R=>ta σ H fun vs H1=>∃ a1 xs,vs=[.ref a1]/\SqL X.K H1 a1 xs/\R (Ite X.K a1 xs) H1):=by
 refine ⟨?_⟩
 intro pins s σ H R I h
 refine Call_ (xq I hg hm XI (bz (thn (ha pos pins s σ H _ I h) fun us s1 ⟨vs,H1,I1,r1,q1⟩=>?_) hs rfl))
 obtain ⟨a1,xs,rfl,w1,q⟩:=q1
 obtain ⟨u1,rfl,e1⟩:=uB r1
 cases e1
 obtain ⟨its,v1,pl,_⟩:=I1.list w1
 have hlt:a1 < s1.heap.objs.size:=let ⟨o,_,e,_⟩:=pl; ap e
 refine call_enumerate_list pl.isList fun h' he hit hz kp=>?_
 refine wpAny_pyIter_enum he ?_
 refine ⟨s1.heap.objs.size+1,_,_,Ite X.K a1 xs,H1,rfl,I1.kept (t':=s1.toks) kp,XH s1.heap.objs.size a1 xs hlt,⟨⟨_,he⟩,hit⟩,fun b hb=>?_,q⟩
 have hle:s1.heap.objs.size<=b:=by
  simp only [ac,bb,or_false] at hb
  rcases hb with rfl | rfl
  ·exact Nat.le_add_right _ _
  ·exact aB _
 exact I1.fpOk hle (I1.hok.fresh hle)
theorem WH {p tpos:Pos} {elts:List Expr} {x1} (hK:C.K=X.K) (hg:Gl X "enumerate") (hm:X.mg "enumerate"=none) (ha:PE X a (tE C own ma fa)) (h1:ma≠.any:=by decide) (hs:starEach [a] X.env=[(false,eval a X.env)]:=by exact qV rfl) :
  PI X (.Tuple elts x1 tpos) (.Call (.Name "enumerate" p) [a] [] pos) (tIt C own (UM fa)):=by
 refine GJ (qcH hg hm (qS (uM ha h1) jz hs) hs) fun σ H R ⟨F,ρ,rp,h⟩=>⟨F,ρ,rp,PoI.bindV h fun v F1 H1 d ρ1 rp1 c1 mo1 h1=>?_⟩
 have mo1:Is C.K F1 v d:=mo1
 cases mo1 with
 | lst p t=>exact ⟨_,_,rfl,by rw [<-hK]; exact rp1.sub.seq p,by rw [<-hK]; exact h1 _ F1 H1 rp1 c1 (qeA p t)⟩
 | _=>exact h1.elim
end
mutual
def qeB:Nat->Expr->Option D
 | 0,_=>none
 | n+1,e=>match e with
  | .Constant c _ _=>match c with
   | .none=>some .non
   | .bool b=>some (.bl b)
   | .int i=>some (.int i)
   | .str x=>if x.length<=sizeLine then some (.str x) else none
   | _=>none
  | .UnaryOp .USub (.Constant (.int i) _ _) _=>some (.int (-i))
  | .List es _=>(qdt n es).bind fun ds=>if ds.length<=sizeLine then some (.lst ds) else none
  | .Tuple es _ _=>(qdt n es).bind fun ds=>if ds.length<=sizeLine then some (.tup ds) else none
  | _=>none
def qdt:Nat->List Expr->Option (List D)
 | _,[]=>some []
 | 0,_::_=>none
 | n+1,e::es=>(qeB n e).bind fun d=>(qdt n es).bind fun ds=>some (d::ds)
end
theorem WJ {α:Type}:∀ l:List α,((l.map fun _=>AK.vl).all fun a=>decide (a=.vl))=true
 | []=>rfl
 | _::l=>by rw [aG,fA,WJ l]; rfl
theorem XJ {n:Nat} {e:Expr} {d:D} (h:qeB n e=some d):YI e=true:=by
 cases n with
 | zero=>cases h
 | succ n=>cases e <;> first | rfl | (simp [qeB] at h)
section
variable {X:Cx} {C:Ct} {own:List Nat}
mutual
theorem qeC:∀ (n:Nat) {e:Expr} {d:D},qeB n e=some d->PE X e (tE C own .sh (dC d))
 | 0,_,_,h=>by cases h
 | n+1,e,d,h=>by
  unfold qeB at h
  split at h
  ·split at h
   ·cases h; exact Wh
   ·cases h; exact JM
   ·cases h; exact qt
   ·split at h
    ·rename_i hz
     cases h
     exact vF hz
    ·cases h
   ·cases h
  ·cases h
   exact jG (GB Wv qt) fun σ H Q h=>h
  ·obtain ⟨ds,h1,h2⟩:=ci.mp h
   split at h2
   ·rename_i hz
    cases h2
    have e2:wL (fun ρ=>.ok (ds,ρ))=dC (.lst ds):=by
     funext ρ
     unfold wL dC
     rw [Out.ok_bind,if_pos hz]
    rw [<-e2]
    exact uM (jB (QC n h1) (WJ _)) (by decide)
   ·cases h2
  ·obtain ⟨ds,h1,h2⟩:=ci.mp h
   split at h2
   ·rename_i hz
    cases h2
    have e2:vj (fun ρ=>.ok (ds,ρ))=dC (.tup ds):=by
     funext ρ
     unfold vj dC
     rw [Out.ok_bind,if_pos hz]
    rw [<-e2]
    exact jQ (QC n h1) (WJ _)
   ·cases h2
  ·cases h
theorem QC:∀ (n:Nat) {es:List Expr} {ds:List D},qdt n es=some ds->PA X es (tAr C own (es.map fun _=>.vl) fun ρ=>.ok (ds,ρ))
 | 0,[],ds,h=>by
  cases h
  exact qg
 | _+1,[],ds,h=>by
  cases h
  exact qg
 | 0,_::_,ds,h=>by cases h
 | n+1,e::es,ds,h=>by
  unfold qdt at h
  obtain ⟨d,h1,h⟩:=ci.mp h
  obtain ⟨ds',h2,h⟩:=ci.mp h
  cases h
  have e2:qd (dC d) (fun ρ=>.ok (ds',ρ))=fun ρ=>.ok (d::ds',ρ):=rfl
  rw [<-e2]
  exact qc (qeC n h1) (QC n h2) (by decide) (jU (XJ h1))
end
theorem XM {es:List Expr} {ds:List D} {pos:Pos} (n:Nat) (h:qdt n es=some ds):PE X (.List es pos) (tE C own .fr (wL fun ρ=>.ok (ds,ρ))):=jB (QC n h) (WJ _)
end
noncomputable def txI (i:Int):Str:=toString i
def CTx (i:Int):Prop:=i.natAbs.log2 < 1920/\(txI i).length<=sizeLine
instance:∀ i,Decidable (CTx i):=fun i=>inferInstanceAs (Decidable (_/\_))
end L2.D2
namespace PySem
open Builtin Builtin.Str
end PySem
namespace L2.D2
open PySem PySem.Spec PyProof.Rows
def qhF (x y:Str):Prop:=(y.length == 0)=false/\(Txt.split x y).length<=sizeLine/\∀ z∈Txt.split x y,z.length<=sizeLine
instance:∀ x y,Decidable (qhF x y):=fun x y=>inferInstanceAs (Decidable (_/\_))
inductive IntsAre:List Value->List Int->Prop
 | nil:IntsAre [] []
 | cons (y:Int) (t:Tok) {vs:List Value} {ys:List Int} (h:IntsAre vs ys):IntsAre (fz y t::vs) (y::ys)
theorem IntsAre.item:∀ {vs:List Value} {ys:List Int},IntsAre vs ys->∀ (i:Nat) (v:Value),vs[i]?=some v->∃ y t,v=fz y t/\ys[i]?=some y
 | _,_,.nil,i,v,e=>by simp at e
 | _,_,.cons y t h,0,v,e=>by simp at e; subst e; exact ⟨y,t,rfl,rfl⟩
 | _,_,.cons y t h,i+1,v,e=>by
  obtain ⟨z,t',e1,e2⟩:=h.item i v (by simpa using e)
  exact ⟨z,t',e1,by simpa using e2⟩
variable {K:Frag} {F H:Hp}
section
theorem TopIs.ins {v:V} {c:Addr} {fs:List (Str×D)} (s:Same F H) (h:TopIs K F H v (.ins c fs)):∃ a dx fv,v=.ref a/\H a=some (.ins c dx fv)/\IsF K F fv fs:=by
 rcases h with h | ⟨a,rfl,dx,fv,e,t⟩
 ·cases h with
  | ins e t=>exact ⟨_,_,_,rfl,s _ _ e,t⟩
 ·exact ⟨a,dx,fv,rfl,e,t⟩
end
variable {own:List Nat} {σ:St} {ρ:Sl} {i:Nat} {b:Addr}
section
variable {own1:List Nat}
theorem Rep.frz {o:HO} (rp:Rep K own F H σ ρ) (hb:H b=some o) (hF:F b=none) (nA:¬OA own σ b):Rep K own (upd F b o) H σ ρ:=by
 have gr:Same F (upd F b o):=fun c w e=>by rw [qB (qI e hF)]; exact e
 refine ⟨fun c w e=>?_,rp.len,fun j d hj e=>?_,fun j d hj e=>?_,rp.opn,rp.dis⟩
 ·by_cases q:c=b
  ·subst q; rw [qr] at e; cases e; exact hb
  ·rw [qB q] at e; exact rp.sub c w e
 ·obtain ⟨v,h1,h2⟩:=rp.val j d hj e
  exact ⟨v,h1,h2.mono gr⟩
 ·obtain ⟨a,h1,h2,h3⟩:=rp.ow j d hj e
  exact ⟨a,h1,by rw [qB (fun z=>nA ⟨j,hj,by rw [<-z]; exact h1⟩)]; exact h2,h3.grow gr fun _ q=>q⟩
end
variable {X:Cx} {C:Ct} {pos:Pos} {x:Str}
section
theorem vr (i:Nat) (hN:X.N[i]?=some x:=by rfl) (hv:Vis X.env.scope x:=by first | exact ax rfl | exact bB (ax rfl) | exact bB (bB rfl)) (ho:i∉own:=by decide) (hd:(x == ("__debug__":Str))=false:=by decide) (hcd:(x == ("__classdict__":Str))=false:=by decide):PE X (.Name x pos) (tE C own .sh (qe i)):=qd5 hN hv ho hd hcd
end
section
theorem Rep.swap {F' H':Hp} {g:Nat} {o:D} (rp:Rep K own F H σ ρ) (hg:g∈own) (eb:σ[g]?=some (some (V.ref b))) (c:Chg (fun z=>z=b) F H F' H') (sb:Same F' H') (fb:F' b=none) (ow:OwnIs K F' H' b o) :
  Rep K own F' H' σ (ρ.set g (some o))/\Chg (OA own σ) F H F' H':=by
 obtain ⟨d0,hd0⟩:=rp.opn g hg
 have hl:g < ρ.length:=(aA.mp hd0).1
 refine ⟨⟨sb,by simp [rp.len],fun j d hj e=>?_,fun j d hj e=>?_,fun j hj=>?_,rp.dis⟩,c.mono fun z hz=>⟨g,hg,by rw [hz]; exact eb⟩⟩
 ·rw [aq (fun z=>hj (by rw [<-z]; exact hg))] at e
  obtain ⟨v,h1,h2⟩:=rp.val j d hj e
  exact ⟨v,h1,h2.mono c.grow⟩
 ·by_cases q:j=g
  ·subst q
   rw [aE hl] at e
   cases e
   exact ⟨b,eb,fb,ow⟩
  ·rw [aq (aU q)] at e
   obtain ⟨a,h1,h2,h3⟩:=rp.ow j d hj e
   have na:a≠b:=fun z=>by subst z; exact q (rp.dis j g a hj hg h1 eb)
   refine ⟨a,h1,?_,h3.grow c.grow fun o q=>c.keep a o q na⟩
   cases qa:F' a with
   | none=>rfl
   | some u=>
    rcases c.new a (by rw [qa]; simp) with z | z | z
    ·exact absurd h2 z
    ·exact absurd z h3.there
    ·exact absurd z na
 ·by_cases q:j=g
  ·subst q; exact ⟨o,aE hl⟩
  ·rw [aq (aU q)]; exact rp.opn j hj
end
noncomputable def WK (n:Nat) (fw fx:Sl->Out (D×Sl)):Sl->Out (Fl×Sl):=fun ρ=>(fw ρ).bind fun p=>(fx p.2).bind fun q=>match (q.2[n]?:Option (Option D)),q.1 with
 | some (some (.lst ds)),.int k=>(match ixN ds.length k with | some j=>.ok (.nx,q.2.set n (some (.lst (ds.set j p.1)))) | none=>.bad)
 | _,_=>.bad
variable {m mx:Mo} {ix:Expr} {apos cpos:Pos} {n:Nat}
section
variable {mo mw:Mo} {e o w:Expr} {fe fo fw fx:Sl->Out (D×Sl)} {p1 p2 p3:Pos}
theorem XN (hN:X.N[n]?=some x) (hv:Vis X.env.scope x) (ho:n∈own) (hw:PE X w (tE C own mw fw)) (hx:PE X ix (tE C own mx fx)) (hmw:mw≠.any:=by decide)
  (hd:(x == ("__debug__":Str))=false:=by decide) (hcd:(x == ("__classdict__":Str))=false:=by decide)
  (hsub:∀ v,assign (.Subscript (.Name x p1) ix p2) X.env v=(do
   let ov <-holding [v] (eval (.Name x p1) X.env)
   let iv <-holding [v,ov] (eval ix X.env)
   standAt p2
   holding [v,ov,iv] (setItem ov iv v)
   release [v,ov,iv] []):=by intro _; rfl)
  (ha1:swapsWithSole [.Subscript (.Name x p1) ix p2] w p3.line X.env=pure false:=by rfl) (ha2:swappedStores [.Subscript (.Name x p1) ix p2] w X.env=pure none:=by rfl)
  (ha3:(assignEach [.Subscript (.Name x p1) ix p2] X.env).map (·.2)=[assign (.Subscript (.Name x p1) ix p2) X.env]:=by rfl) :
  PS X (.Assign [.Subscript (.Name x p1) ix p2] w p3) (tSt C own own (WK n fw fx)):=by
 refine gz (qa8 (uM hw hmw) (qdI (uD hN hv hd hcd) hx Gs hsub) ha1 ha2 ha3) fun Dn σ H ⟨F,ρ,rp,h⟩=>⟨F,ρ,rp,PoS.bindE h fun v F1 H1 d ρ1 rp1 c1 mo1 h1=>?_⟩
 have mo1:Is C.K F1 v d:=mo1
 obtain ⟨d0,hd0⟩:=rp1.opn n ho
 obtain ⟨a,e1,hF,o0⟩:=rp1.ow n d0 ho hd0
 refine ⟨_,e1,F1,ρ1,rp1,PoS.bindE h1 fun iv F2 H2 di ρ2 rp2 c2 mo2 h2=>?_⟩
 obtain ⟨d2,hd2⟩:=rp2.opn n ho
 obtain ⟨a',e2,hF2,o2⟩:=rp2.ow n d2 ho hd2
 rw [e1] at e2
 cases e2
 simp only [hd2] at h2
 cases d2 with
 | lst ds=>
  cases di with
  | int k=>
   have hiv:=mo2.top.int
   subst hiv
   obtain ⟨xs,ex,il⟩:=o2
   cases q:ixN ds.length k with
   | none=>simp only [q] at h2; exact h2.elim
   | some j=>
    simp only [q] at h2
    obtain ⟨r3,c3⟩:=rp2.write (u:=.lst (xs.set j v)) (d:=.lst (ds.set j d)) ho e1 ⟨_,qr,il.set (mo1.mono c2.grow) j⟩
    exact ⟨a,xs,k,j,rfl,rfl,ex,by rw [il.length]; exact q,h2 σ F2 _ ⟨r3,c3,fun _ z=>.inl z,fun _ _=>rfl⟩⟩
  | _=>exact h2.elim
 | _=>exact h2.elim
end
section
variable {mb:Mo} {b:Expr} {fb:Sl->Out (D×Sl)} {px:Pos}
noncomputable def d2O (i:Nat) (g:D->D->Out D) (fb:Sl->Out (D×Sl)):Sl->Out (D×Sl):=fun ρ=>(fb ρ).bind fun q=>match (q.2[i]?:Option (Option D)) with
 | some (some d)=>(g d q.1).plain.bind fun r=>.ok (r,q.2)
 | _=>.bad
theorem qcI {g:D->D->Out D} {Q:VK} (ho:i∈own) (h:tE C own m (d2O i g fb) σ H Q) :
  qfM i σ H fun x H1=>tE C own mb fb σ H1 fun y H2=>∃ F dx dy,Same F H2/\TopIs C.K F H2 x dx/\TopIs C.K F H2 y dy/\PoV C m F H2 (g dx dy) Q:=by
 obtain ⟨F,ρ,rp,h⟩:=h
 obtain ⟨d0,hd0⟩:=rp.opn i ho
 obtain ⟨a,e1,hF,o0⟩:=rp.ow i d0 ho hd0
 refine ⟨_,e1,F,ρ,rp,Po.bind h fun v F1 H1 d ρ1 rp1 c1 mo1 h1=>?_⟩
 obtain ⟨d1,hd1⟩:=rp1.opn i ho
 obtain ⟨a',e2,hF1,o1⟩:=rp1.ow i d1 ho hd1
 rw [e1] at e2
 cases e2
 simp only [hd1] at h1
 exact ⟨F1,d1,d,rp1.sub,.inr ⟨a,rfl,o1⟩,mo1.top,PoV.of rp1 h1⟩
theorem qeD (hK:C.K=X.K) (hu:X.A.units+64 < cLine) (hN:X.N[i]?=some x) (hv:Vis X.env.scope x) (ho:i∈own) (hb:PE X b (tE C own mb fb)) (hs:KY b)
  (hd:(x == ("__debug__":Str))=false:=by decide) (hcd:(x == ("__classdict__":Str))=false:=by decide):PE X (.Subscript (.Name x px) b pos) (tE C own .sh (d2O i ixD fb)):=by
 refine jG (qdV (qbc (by omega)) (uD hN hv hd hcd) hb hs) fun σ H Q h=>?_
 obtain ⟨v,e1,F,ρ,rp,h⟩:=qcI (mb:=mb) ho h
 refine ⟨v,e1,F,ρ,rp,?_⟩
 cases q2:fb ρ with
 | ok p=>
  rw [q2] at h
  obtain ⟨d',ρ3⟩:=p
  intro w F3 H3 rp3 c3 mo3
  obtain ⟨F4,dx,dy,sb,tx,ty,po⟩:=h w F3 H3 rp3 c3 mo3
  exact qbd (σ:=σ) hK sb tx ty po
 | exc c=>rw [q2] at h; exact h
 | bad=>rw [q2] at h; exact h.elim
end
def FlyA (h:Heap) (ex T:Addr) (cls:Value):Prop:=∃ oe vs oT ts fl,h.get? ex=some oe/\oe.cls=cls/\oe.data=.fields vs/\vs[1]?=some (.ref T)/\T≠ex/\h.get? T=some oT/\oT.data=.fields ts/\ts[3]?=some fl
theorem FlyA.tr {h base:Heap} {ex T:Addr} {cls:Value} (f:FlyA h ex T cls) (hb:base.get? T=none):∃ a0 fl,h.TracedAtW base ex cls a0 fl:=by
 obtain ⟨oe,vs,oT,ts,fl,a1,a2,a3,a4,a5,a6,a7,a8⟩:=f
 have hz:0 < vs.size:=Nat.lt_of_succ_lt (Array.getElem?_eq_some_iff.mp a4).1
 exact ⟨vs[0],fl,oe,vs,T,oT,ts,a1,⟨a2,by simp [hz]⟩,a3,a4,hb,a5,a6,a7,a8⟩
noncomputable def xN (n:Nat) (fw fx:Sl->Out (D×Sl)):Sl->Out (Fl×Sl):=fun ρ=>(fw ρ).bind fun p=>(fx p.2).bind fun q=>match (q.2[n]?:Option (Option D)) with
 | some (some (.dct kvs))=>(match Qr q.1 with
  | some k=>if kvs.length < sizeLine then .ok (.nx,q.2.set n (some (.dct (Jz kvs k p.1)))) else .bad
  | none=>.bad)
 | _=>.bad
section
variable {w:Expr} {fw fx:Sl->Out (D×Sl)} {mw:Mo} {p1 p2 p3:Pos}
theorem xY (hu:X.A.units+64 < cLine) (hN:X.N[n]?=some x) (hv:Vis X.env.scope x) (ho:n∈own) (hw:PE X w (tE C own mw fw)) (hx:PE X ix (tE C own mx fx)) (hmw:mw≠.any:=by decide)
  (hd:(x == ("__debug__":Str))=false:=by decide) (hcd:(x == ("__classdict__":Str))=false:=by decide) (hs:swapsWith w (some (.Subscript (.Name x p1) ix p2)) p3.line X.env=pure false:=by rfl) :
  PS X (.Assign [.Subscript (.Name x p1) ix p2] w p3) (tSt C own own (xN n fw fx)):=by
 refine gz (qb3 (by omega) (uD hN hv hd hcd) hx (uM hw hmw) hs) fun Dn σ H ⟨F,ρ,rp,h⟩=>⟨F,ρ,rp,PoS.bindE h fun v F1 H1 d ρ1 rp1 c1 mo1 h1=>?_⟩
 have mo1:Is C.K F1 v d:=mo1
 obtain ⟨d0,hd0⟩:=rp1.opn n ho
 obtain ⟨a,e1,hF,o0⟩:=rp1.ow n d0 ho hd0
 refine ⟨_,e1,F1,ρ1,rp1,PoS.bindE h1 fun iv F2 H2 di ρ2 rp2 c2 mo2 h2=>?_⟩
 obtain ⟨d2,hd2⟩:=rp2.opn n ho
 obtain ⟨a',e2,hF2,o2⟩:=rp2.ow n d2 ho hd2
 rw [e1] at e2
 cases e2
 simp only [hd2] at h2
 cases d2 with
 | dct kvs=>
  cases q:Qr di with
  | none=>simp only [q] at h2; exact h2.elim
  | some k=>
   simp only [q] at h2
   have hiv:=qfA mo2.top q
   subst hiv
   obtain ⟨kv,ex,ik⟩:=o2
   by_cases hz:kvs.length < sizeLine
   ·simp only [if_pos hz] at h2
    obtain ⟨r3,c3⟩:=rp2.write (u:=.dK (xL kv k v)) (d:=.dct (Jz kvs k d)) ho e1 ⟨_,qr,ik.put (mo1.mono c2.grow)⟩
    exact ⟨a,_,rfl,DPut.k ex (by rw [ik.length]; exact hz),h2 σ F2 _ ⟨r3,c3,fun _ z=>.inl z,fun _ _=>rfl⟩⟩
   ·simp only [if_neg hz] at h2; exact h2.elim
 | _=>exact h2.elim
end
noncomputable def XO (i:Nat):Sl->Out (D×Sl):=fun ρ=>match (ρ[i]?:Option (Option D)) with
 | some (some (.lst (d::es)))=>.ok (d,ρ.set i (some (.lst es)))
 | _=>.bad
section
variable {px:Pos}
theorem qcJ:MtR X "list.pop" (fun x vs H Q=>∃ l v xs,x=.ref l/\vs=[.int 0]/\H l=some (.lst (v::xs))/\Q v (upd H l (.lst xs))):=by
 intro pins s σ H x vs v us Q I rx rv h
 obtain ⟨l,y,xs,rfl,rfl,hH,q⟩:=h
 exact Gv pins s σ H _ _ v us Q I rx rv ⟨l,_,0,0,y,rfl,rfl,hH,by decide,by decide,by simp [seqIndex?],rfl,q⟩
theorem qcK {j:Nat} {pz:Pos} (hN:X.N[i]?=some x) (hv:Vis X.env.scope x) (ho:i∈own) (hd:(x == ("__debug__":Str))=false:=by decide) (hcd:(x == ("__classdict__":Str))=false:=by decide)
  (hbase:attributeBase (.Name x px) "pop" X.env (eval (.Name x px) X.env)=eval (.Name x px) X.env:=by rfl) (hline:(apos.endLine == cpos.line)=true:=by rfl)
  (hfew:((backTo cpos (starEach [.Constant (.int 0) j pz] X.env)).all (fun x=>!x.1)&&(backToKw cpos (keywordEach [] X.env)).all (fun x=>x.1.isSome)
   && decide ([fB (.int 0) j pz].length+([]:List Keyword).length+(if ([]:List Keyword).isEmpty then 0 else 1) < 30))=true:=by exact vU rfl)
  (hs:starEach [.Constant (.int 0) j pz] X.env=[(false,eval (.Constant (.int 0) j pz) X.env)]:=by exact qV rfl) :
  PE X (.Call (.Attribute (.Name x px) "pop" apos) [.Constant (.int 0) j pz] [] cpos) (tE C own .sh (XO i)):=by
 refine jG (Us ck PySem.F.slot_list_pop PySem.F.type_list_pop qcJ (uD hN hv hd hcd) (qS qa6 jz hs) hbase hfew hline hs rfl) fun σ H Q ⟨F,ρ,rp,h⟩=>?_
 obtain ⟨d0,hd0⟩:=rp.opn i ho
 obtain ⟨a,e1,hF,o0⟩:=rp.ow i d0 ho hd0
 unfold XO at h
 simp only [hd0] at h
 cases d0 with
 | lst es=>
  cases es with
  | nil=>exact h.elim
  | cons d es=>
   obtain ⟨xs,ex,il⟩:=o0
   cases il with
   | cons iv il=>
    refine ⟨_,e1,.inl ⟨rfl,_,.inl (.inl ex)⟩,?_⟩
    obtain ⟨r2,c3⟩:=rp.write (u:=.lst _) (d:=.lst es) ho e1 ⟨_,qr,il⟩
    exact ⟨a,_,_,rfl,rfl,ex,h _ F _ r2 c3 iv⟩
 | _=>exact h.elim
end
noncomputable def qfI (kvs:List (Key×D)) (k:Key) (d:D):D:=match kvs.find? fun kv=>decide (kv.1=k) with
 | some kv=>kv.2
 | none=>d
noncomputable def qap (fo fe ff:Sl->Out (D×Sl)):Sl->Out (D×Sl):=fun ρ=>(fo ρ).bind fun p=>if (match p.1 with | .dct _=>true | _=>false)=true then (fe p.2).bind fun q=>(ff q.2).bind fun r=>(match p.1 with
 | .dct kvs=>(match Qr q.1 with
  | some k=>.ok (qfI kvs k r.1,r.2)
  | none=>.bad)
 | _=>.bad) else .bad
theorem IsK.miss {k:Key}:∀ {vs:List (Key×V)} {ds:List (Key×D)},IsK K F vs ds->(ds.find? fun kv=>decide (kv.1=k))=none->KQ vs k=none
 | _,_,.nil,e=>rfl
 | _,_,.cons (k:=k') (vs:=vs) h t,e=>by
  by_cases q:k'=k
  ·rw [bC (by simp [q])] at e
   cases e
  ·rw [bt (by simp [q])] at e
   rw [ye q]
   exact IsK.miss t e
section
variable {o e f:Expr} {fo fe ff:Sl->Out (D×Sl)} {me mf:Mo}
theorem qcL (hu:X.A.units+64 < cLine) (ho:PE X o (tE C own .sh fo)) (he:PE X e (tE C own me fe)) (hf:PE X f (tE C own mf ff)) (hmf:mf≠.any:=by decide) (hme:me≠.any:=by decide)
  (hbase:attributeBase o "get" X.env (eval o X.env)=eval o X.env:=by rfl)
  (hfew:((backTo cpos (starEach [e,f] X.env)).all (fun x=>!x.1)&&(backToKw cpos (keywordEach [] X.env)).all (fun x=>x.1.isSome)
   && decide (([e,f]:List Expr).length+([]:List Keyword).length+(if ([]:List Keyword).isEmpty then 0 else 1) < 30))=true:=by exact vU rfl)
  (hline:(apos.endLine == cpos.line)=true:=by rfl) (htr:backTo cpos (starEach [e,f] X.env)=[(false,eval e X.env),(false,eval f X.env)]:=by rfl) :
  PE X (.Call (.Attribute o "get" apos) [e,f] [] cpos) (tE C own .sh (qap fo fe ff)):=by
 refine jG (Gz (by omega) ho he (uM hf hmf) ⟨hbase,hfew,hline,htr⟩) fun σ H Q ⟨F,ρ,rp,h⟩=>?_
 refine ⟨F,ρ,rp,Po.bind h fun v F1 H1 d ρ1 rp1 c1 mo1 h1=>?_⟩
 have mo1:Is C.K F1 v d:=mo1
 cases d with
 | dct kvs=>
  simp only [if_true] at h1
  cases mo1 with
  | dct ha ik=>
   rename_i a kv
   refine ⟨a,rfl,.inl ⟨kv,.inl (rp1.sub _ _ ha)⟩,F1,ρ1,rp1,Po.bind h1 fun y F2 H2 dy ρ2 rp2 c2 mo2 h2=>?_⟩
   refine ⟨F2,ρ2,rp2,Po.bind h2 fun z F3 H3 dz ρ3 rp3 c3 mo3 h3=>?_⟩
   have mo3:Is C.K F3 z dz:=mo3
   cases q:Qr dy with
   | none=>simp only [q] at h3; exact h3.elim
   | some k=>
    simp only [q] at h3
    have hy:=qfA mo2.top q
    subst hy
    have g23:F3 a=some (.dK kv):=c3.grow _ _ (c2.grow _ _ ha)
    have ik3:IsK C.K F3 kv kvs:=(ik.mono c2.grow).mono c3.grow
    refine ⟨KQ kv k,.inl ⟨kv,k,.inl (rp3.sub _ _ g23),rfl,rfl⟩,?_⟩
    unfold qfI at h3
    cases q2:kvs.find? fun kv=>decide (kv.1=k) with
    | none=>
     simp only [q2] at h3
     rw [ik3.miss q2]
     exact h3 z F3 H3 rp3 .refl mo3
    | some kd=>
     simp only [q2] at h3
     obtain ⟨w,e1,e2⟩:=ik3.find q2
     rw [e1]
     exact h3 w F3 H3 rp3 .refl e2
 | _=>exact h1.elim
end
end L2.D2
namespace L2.D2
open PySem PySem.Spec PyProof.Rows PySem.W
section
variable {prog:Program} {w:World} {A:Around} {E:Value->Shared->Prop} {s:Shared} {T:String} {r d:Addr} {n:Nat} {P:Nat->Value->Prop} {OK:Heap->Prop}
theorem XQ {Q:List Value->Shared->Prop} (K:KdlSrc prog w T r d n P OK) (hh:A.handled=none) (hok:OK s.heap) (hn:n<=sizeLine)
  (hQ:∀ h' tk acc,(∀ b o,s.heap.get? b=some o->h'.get? b=some o)->ItemsOf P acc n->Q acc.toList { s with heap:=h',toks:=tk }):wpAny (model prog w) A (collect (.ref r)) Q E s:=by
 unfold collect
 refine wpAny_bind (wpAny_runValue (codeAny_builtin F.entry_proto_collect ?_))
 rw [aQ F.plain_proto_collect _]
 show wpAny _ A.in1 (newList [] >>= fun l=>again (.builtin "list.__iadd__" ⟨[l,.ref r],[]⟩)) _ _ s
 refine wpAny_bind (wpAny_newObj_type ?_)
 refine wpAny_pure ⟨plainId_quiet F.plain_list_iadd _,codeAny_builtin F.entry_list_iadd ?_⟩
 rw [aQ F.plain_list_iadd _]
 have hlt:=K.there _ hok
 have hS:(s.heap.push { cls:=.type "list",data:=.seq ([]:List Value).toArray }).get? s.heap.objs.size=some { cls:=.type "list",data:=.seq ([]:List Value).toArray }:=ak _ rfl
 show wpAny _ A.in1 (bg (.ref s.heap.objs.size) (.ref r) (.ref s.heap.objs.size)) _ _ _
 refine kdl_extend (R:=fun r s'=>match r with
  | .ok (.ret v)=>wpAny (model prog w) A (match v with
   | .ref a=>do
    let o <-load a
    match o.data with
     | .seq xs _=>pure xs.toList
     | _=>unsupported "internal:collect"
   | _=>unsupported "internal:collect") Q E s'
  | .ok _=>False
  | .error e=>E e s') (s:={ s with heap:=s.heap.push { cls:=.type "list",data:=.seq ([]:List Value).toArray } }) K hh (K.keep _ _ hok fun b _ o e=>ae _ e) _ (cf hlt.1) (cf hlt.2) _ 0 hS (fun h' tk acc' c' hk hS' hacc=>?_) hn
 show wpAny _ A (load s.heap.objs.size >>= _) _ _ _
 refine wpAny_bind (wpAny_load hS' ?_)
 exact wpAny_pure (hQ h' tk acc' (fun b o e=>hk b o (aD (ap e)) (ae _ e)) hacc)
theorem XR:∀ (ss:List Str) (us:List Value),us.length=ss.length->(∀ (j:Nat) (v:Value),us[j]?=some v->∃ x t,ss[j]?=some x/\v=eO x t)->StrsAre us ss
 | [],[],_,_=>.nil
 | [],_::_,h,_=>by cases h
 | _::_,[],h,_=>by cases h
 | x::ss,u::us,h,k=>by
  obtain ⟨x',t,e1,e2⟩:=k 0 u rfl
  cases e1
  rw [e2]
  refine .cons _ t (XR ss us (by simpa using h) fun j v e=>?_)
  simpa using k (j+1) v (by simpa using e)
theorem qaq {ss:List Str} {Q:Value->Shared->Prop} (K:KdlSrc prog w T r d n P OK) (hh:A.handled=none) (hok:OK s.heap) (hss:∀ acc:Array Value,ItemsOf P acc n->StrsAre acc.toList ss) (h64:ss.length < 64) (hn:n<=sizeLine)
  (hQ:∀ (h1 h':Heap) tk vs e ss',(∀ b o,s.heap.get? b=some o->h1.get? b=some o)->(∀ b o,h1.get? b=some o->h'.get? b=some o)->h'.get? h1.objs.size=some (seqObj "list" vs e)->StrsAre vs.toList ss'->ss'.Perm ss->sortedS ss'=true->Q (.ref h1.objs.size) { s with heap:=h',toks:=tk }) :
  wpAny (model prog w) A (call (.builtin "sorted") [.ref r]) Q E s:=by
 refine Calls.call_function_entry kind_sorted plain_sorted entry_sorted (args_sorted1 _) ?_; unfold Builtin.«sorted»
 refine wpAny_bind (m:=checkCount "sorted" 1 1 _) (wpAny_pure ?_)
 refine wpAny_bind (XQ (A:=A.in1) K (show A.in1.handled=none from hh) hok hn fun h1 tk acc k1 hi=>?_)
 have hst:=hss acc hi
 have hl:acc.toList.length < 64:=by rw [hst.length]; exact h64
 refine wpAny_bind (wpAny_newList ?_ (by rw [sizeLine_eq]; omega))
 have hoL:(h1.push (seqObj "list" acc.toList.toArray 0)).get? h1.objs.size=some (seqObj "list" acc.toList.toArray 0):=ak _ rfl
 refine wpAny_bind (wpAny_holding (wpAny_call_entry slot_list_sort (s:={ s with heap:=h1.push (seqObj "list" acc.toList.toArray 0),toks:=tk }) ⟨_,hoL,rfl⟩ entry_list_sort (list_sort_treeK strKind_oneLt hoL hst.keysOf (fun v₁ v₂ rest e=>keyKind_strs (by rw [<-e]; exact hst)) hl fun st' a1 a2=>⟨_,rfl,?_⟩) (args_list_sort _)))
 obtain ⟨ss',b1,b2,b3⟩:=sorted_out_str hst a1 a2
 obtain ⟨e,he⟩:=sortedHeap_at (out:=(arrOf st').map (·.2)) hoL
 refine wpAny_pure ⟨_,rfl,hQ h1 _ tk _ e ss' k1 (fun b o eb=>?_) he b1 b2 b3⟩
 have hb:=ap eb
 rw [sortedHeap_old (aD hb) (by rw [cA]; exact eF hb)]
 exact ae _ eb
end
variable {α:Type}
noncomputable def Vv:List (Key×α)->Option (List Str)
 | []=>some []
 | (.inr x,_)::l=>(Vv l).map (x::·)
 | (.inl _,_)::_=>none
theorem WL:∀ {l:List (Key×α)} {ss:List Str},Vv l=some ss->l.map (·.1)=ss.map bj
 | [],ss,h=>by cases h; rfl
 | (.inr x,_)::l,ss,h=>by
  obtain ⟨ss',e,rfl⟩:=aO.mp (show (Vv l).map (x::·)=some ss from h)
  rw [aG,aG,WL e]
 | (.inl _,_)::_,ss,h=>by cases h
theorem IsK.keys {K:Frag} {F:Hp}:∀ {kv:List (Key×V)} {ks:List (Key×D)},IsK K F kv ks->kv.map (·.1)=ks.map (·.1)
 | _,_,.nil=>rfl
 | _,_,.cons h t=>by rw [aG,aG,IsK.keys t]
theorem KV.keys:∀ {kv:List (Key×V)} {vs:List (Key×Value)},KV kv vs->kv.map (·.1)=vs.map (·.1)
 | _,_,.nil=>rfl
 | _,_,.cons h t=>by rw [aG,aG,h.1,KV.keys t]
noncomputable def jY:D->Out D
 | .dct kvs=>(match Vv kvs with
  | some ss=>if ss.length < 64/\(ss.all fun y=>decide (y.length<=sizeLine))=true then .ok (.lst ((jX ss).map D.str)) else .bad
  | none=>.bad)
 | _=>.bad
section
variable {X:Cx} {C:Ct} {own:List Nat} {e:Expr} {fa:Sl->Out (D×Sl)} {ma:Mo} {pos:Pos}
theorem gT (hc:X.calm=true):Qk X C .fr (.builtin "sorted") jY:=by
 intro pins s σ H xs us Q I r h
 obtain ⟨x,F,dx,rfl,sb,tx,po⟩:=h
 obtain ⟨u,rfl,ru⟩:=uB r
 cases dx with
 | dct kvs=>
  obtain ⟨a,kv,rfl,hH,ik⟩:=tx.dct sb
  cases ru
  cases q:Vv kvs with
  | none=>simp only [jY,q] at po; exact po.elim
  | some ss=>
   simp only [jY,q] at po
   by_cases hl:ss.length < 64/\(ss.all fun y=>decide (y.length<=sizeLine))=true
   ·rw [if_pos hl] at po
    obtain ⟨hz,hsys,vs,rel,dd⟩:=(show ObjOk X.prog X.w H s.heap a (.dK kv) from I.hok a _ hH)
    obtain ⟨ep,da⟩:=dd.dictAt
    have hk:vs.map (·.1)=ss.map bj:=by rw [<-KV.keys rel,ik.keys,WL q]
    have hlen:vs.length=ss.length:=by have:=congrArg fm hk; simpa using this
    refine qaq (kdl_dict (kvs:=vs) (ep:=ep) hsys) (I.ok.hd hc) da (fun acc hi=>XR _ _ (by rw [bH,hi.1,hlen]) fun j v e=>?_) hl.1 (by rw [hlen,sizeLine_eq]; omega) fun h1 h' tk us e ss' k1 k2 hp st pm so=>?_
    ·obtain ⟨k,x,e1,e2⟩:=hi.2 j v (by rw [<-bi]; exact e)
     have e3:(vs.map (·.1))[j]?=some k:=by rw [aF,e1]; rfl
     rw [hk,aF] at e3
     obtain ⟨y,e4,rfl⟩:=aO.mp e3
     rcases jm (show yO (bj y) v=true from e2) with ⟨i,t,e5,_⟩ | ⟨z,t,e5,rfl⟩
     ·cases e5
     ·cases e5
      exact ⟨_,t,e4,rfl⟩
    ·rw [Kl pm so] at st
     have I1:Inv X pins σ H { s with heap:=h1,toks:=tk }:=I.kept (t':=tk) k1
     have hz:(jX ss).length<=sizeLine:=by
      rw [(qR _).length_eq,sizeLine_eq]
      omega
     have hq:H h1.objs.size=none:=I1.hok.fresh (aB _)
     obtain ⟨s2,c2,f2⟩:=kX (u:=.lst ((jX ss).map V.str)) sb hq
     exact ⟨.ref h1.objs.size,_,I1.laid (t':=tk) (o:=.lst ((jX ss).map V.str)) k2 (aB _) ⟨by rw [ay]; exact hz,us.toList,e,zJ st,by simpa [seqObj] using hp⟩,rfl,po _ _ _ s2 c2 ⟨_,rfl,hq,f2,_,qr,QA fun y hy2=>by
      have:=(qR _).mem_iff.mp hy2
      exact of_decide_eq_true (ba.mp hl.2 y this)⟩⟩
   ·rw [if_neg hl] at po; exact po.elim
 | _=>exact po.elim
end
end L2.D2
namespace PySem.F
theorem nolen_lri:typeLookup (.type "list_reverseiterator") "__len__"=pure none:=by rw [typeLookup_type,builtinLookup_eq_fast]; kernel_rfl
theorem hint_lri:typeLookup (.type "list_reverseiterator") "__length_hint__"=pure (some (.builtin "list_reverseiterator.__length_hint__")):=by rw [typeLookup_type,builtinLookup_eq_fast]; kernel_rfl
end PySem.F
namespace L2.D2
open PySem PySem.Spec PyProof.Rows PySem.W
section
variable {prog:Program} {w:World} {A:Around} {E:Value->Shared->Prop} {s:Shared} {I l:Addr} {items:Array Value}
theorem UN {R:Result->Shared->Prop} (hh:A.handled=none) (hne:l≠I) (hit:s.heap.IsRevIter I l ((items.size:Int) - 1)) (hl:s.heap.IsList l items) (S:Addr) (hSI:S≠I) (hSl:S≠l) (res:Value) (c₀:Nat) (hS:s.heap.get? S=some { cls:=.type "list",data:=.seq #[] c₀ })
  (hR:∀ h' tk acc' c',(∀ b o,b≠S->b≠I->s.heap.get? b=some o->h'.get? b=some o)->h'.get? S=some { cls:=.type "list",dict:=none,data:=.seq acc' c',slots:=#[] }->ItemsOf (fun i v=>items[items.size - 1 - i]?=some v) acc' items.size->R (.ok (.ret res)) { s with heap:=h',toks:=tk }) (hn:items.size<=sizeLine) :
  wpAny (model prog w) A.in1 (bg (.ref S) (.ref I) res)
   (fun fin s'=>match fin with | .done f=>R (.ok f) s' | .again c'=>c'.quiet=true/\codeAny (model prog w) A c' R s') (fun e s'=>R (.error e) s') s:=by
 have W:=Walks.listRev (prog:=prog) (w:=w) (A:=A.in1) hh I l hne items
 have hSf:S∉[I,l]:=by simp only [ac,bb,or_false,not_or]; exact ⟨hSI,hSl⟩
 have st:0<=items.size/\s.heap.IsRevIter I l ((items.size:Int) - 1 - ((0:Nat):Int))/\s.heap.IsList l items:=⟨bq _,by simpa using hit,hl⟩
 unfold bg
 refine wpAny_bind (wpAny_typeOf hit.typeIs ?_)
 have h1:cM (.ref S) (.ref I)=false:=by simp [cM,hSI]
 rw [if_neg (by rw [h1]; decide)]
 refine wpAny_bind (W.self 0 _ _ _ st ?_)
 refine wpAny_bind (wpAny_holding ?_)
 unfold Builtin.List.listLengthHint
 refine wpAny_bind (wpAny_specialOf hit.typeIs F.nolen_lri ?_)
 show wpAny _ A.in1 (specialOf (bO I) (aV "__length_hint__") >>= _) _ _ _
 refine wpAny_bind (wpAny_specialOf hit.typeIs F.hint_lri ?_)
 generalize hid:("list_reverseiterator.__length_hint__":String)=id0
 wp_delta
 rw [show splitId id0=some ("list_reverseiterator", "__length_hint__") from by subst hid; decide +kernel]
 subst hid
 refine wpAny_bind (wpAny_isInstance (b:=true) hit.typeIs (by rw [isSubtype_type]; kernel_rfl) ?_)
 refine wpAny_pure ?_
 rw [if_neg (by decide)]
 refine wpAny_pure ⟨plainId_quiet F.plain_extend_loop _,codeAny_extend_loopS W.toS hn S hSf res items.size 0 _ #[] c₀ rfl (bq _) st hS (ItemsOf.nil _) fun s' acc' c' hm hS' hacc=>?_⟩
 rw [Moved.eq_with hm]
 refine hR s'.heap s'.toks acc' c' (fun b o hb hb2 e=>hm.heap b o (fun hmem=>?_) e) hS' hacc
 rcases ac.mp hmem with e' | hmem
 ·exact hb e'
 ·exact hb2 (au.mp hmem)
theorem qar {Q:Value->Shared->Prop} (hh:A.handled=none) (hne:l≠I) (hit:s.heap.IsRevIter I l ((items.size:Int) - 1)) (hl:s.heap.IsList l items) (hn:items.size<=sizeLine)
  (hQ:∀ h' tk acc' c',(∀ b o,b≠I->s.heap.get? b=some o->h'.get? b=some o)->h'.get? s.heap.objs.size=some { cls:=.type "list",dict:=none,data:=.seq acc' c',slots:=#[] }->ItemsOf (fun i v=>items[items.size - 1 - i]?=some v) acc' items.size->Q (.ref s.heap.objs.size) { s with heap:=h',toks:=tk }) :
  wpAny (model prog w) A (call (.type "list") [.ref I]) Q E s:=by
 refine callType_codes (Q₁:=fun obj s₁=>obj=.ref s.heap.objs.size/\s₁={ s with heap:=s.heap.push { cls:=.type "list",data:=.seq #[] } }) PySem.F.called_list (PySem.F.typeCall_list_1 _) PySem.F.entry_list_init
  (code_list_new _ ⟨rfl,rfl⟩) fun obj s₁ h₁=>?_
 obtain ⟨rfl,rfl⟩:=h₁
 have hS:(s.heap.push { cls:=.type "list",data:=.seq #[] }).get? s.heap.objs.size=some { cls:=.type "list",data:=.seq #[] }:=ak _ rfl
 obtain ⟨oI,hoI,_⟩:=id hit
 obtain ⟨ol,hol,_⟩:=id hl
 have hSI:s.heap.objs.size≠I:=cf (ap hoI)
 have hSl:s.heap.objs.size≠l:=cf (ap hol)
 refine ⟨⟨_,hS,rfl⟩,PySem.F.args_list_init_2 _ _,?_⟩
 show wpAny _ _ (do let old <-Builtin.List.listItems (.ref s.heap.objs.size); Builtin.List.listUpdate (.ref s.heap.objs.size) (fun _=>#[]); letGo old.toList.reverse; bg (.ref s.heap.objs.size) (.ref I) .none) _ _ _
 refine wpAny_bind ?_
 unfold Builtin.List.listItems
 refine wpAny_bind (wpAny_seqItems hS rfl (wpAny_pure ?_))
 show wpAny _ _ (updateSeq s.heap.objs.size (fun _=>#[]) >>= fun _=>letGo (#[]:Array Value).toList.reverse >>= fun _=>bg (.ref s.heap.objs.size) (.ref I) .none) _ _ _
 refine wpAny_bind (wpAny_updateSeq hS rfl ?_)
 have hS₂:=bh (cJ (fun _=>(#[]:Array Value))) hS rfl
 have oth:∀ b o,b≠s.heap.objs.size->s.heap.get? b=some o->((s.heap.push { cls:=.type "list",data:=.seq #[] }).update s.heap.objs.size (cJ (fun _=>(#[]:Array Value)))).get? b=some o:=
  fun b o hb e=>(cy _ _ (aU hb)).trans (ae _ e)
 refine wpAny_bind (wpAny_letGo ?_)
 refine UN (A:=A.in1) hh hne (hit.at fun o e=>oth I o hSI.symm e) (hl.at fun o e=>oth l o hSl.symm e) _ hSI hSl .none _ hS₂ (fun h' tk acc' c' hk hS' hacc=>?_) hn
 exact ⟨rfl,hQ h' tk acc' c' (fun b o hb e=>hk b o (aD (ap e)) hb (oth b o (aD (ap e)) e)) hS' hacc⟩
end
noncomputable def yy:D->Out D
 | .lst xs=>.ok (.lst xs.reverse)
 | _=>.bad
theorem qas {vs:List V} {its:List Value} {acc:Array Value} (r:Vals vs its) (h:ItemsOf (fun i v=>its.toArray[its.toArray.size - 1 - i]?=some v) acc its.toArray.size):Vals vs.reverse acc.toList:=by
 have e:acc.toList=its.reverse:=by
  apply dW
  intro j
  have hs:acc.size=its.length:=by simpa using h.1
  by_cases hj:j < its.length
  ·have hv:acc.toList[j]?=some (acc.toList[j]'(by rw [bH]; omega)):=aC _
   have h2:=h.2 j _ (by rw [<-bi]; exact hv)
   rw [hv,List.getElem?_reverse hj,<-h2]
   simp
  ·rw [bZ (by rw [bH]; omega),bZ (by rw [ei]; omega)]
 rw [e]
 exact r.reverse
theorem Vw {K:Frag} {F:Hp}:∀ {vs:List V} {ds:List D},IsL K F vs ds->IsL K F vs.reverse ds.reverse
 | _,_,.nil=>.nil
 | _,_,.cons h t=>by
  rw [cj,cj]
  exact (Vw t).append (.cons h .nil)
section
variable {X:Cx} {C:Ct} {own:List Nat} {e:Expr} {fa:Sl->Out (D×Sl)} {ma:Mo} {pos:Pos}
theorem UO {p p2 pos2:Pos} (hK:C.K=X.K) (hc:X.calm=true) (hg:Gl X "list") (hm:X.mg "list"=none) (hv:bootBuiltins "list"=some (.type "list")) (hg2:Gl X "reversed") (hm2:X.mg "reversed"=none) (hv2:bootBuiltins "reversed"=some (.type "reversed")) (ha:PE X e (tE C own ma fa))
  (he:starEach [e] X.env=[(false,eval e X.env)]:=by exact qV rfl) (he2:starEach [.Call (.Name "reversed" p2) [e] [] pos2] X.env=[(false,eval (.Call (.Name "reversed" p2) [e] [] pos2) X.env)]:=by exact qV rfl) :
  PE X (.Call (.Name "list" p) [.Call (.Name "reversed" p2) [e] [] pos2] [] pos) (tE C own .fr (d1 yy fa)):=by
 refine ⟨?_⟩
 intro pins s σ H Q I h
 refine wpAny_Call_Name_kw (xq I hg hm hv ?_ (by decide) (by decide))
 refine bz ?_ (by rw [he2]; rfl) rfl
 rw [he2]
 show wpAny _ _ (spliced ((false,eval (.Call (.Name "reversed" p2) [e] [] pos2) X.env)::[])) _ _ s
 refine dG ?_
 refine wpAny_Call_Name_kw (xq I hg2 hm2 hv2 ?_ (by decide) (by decide))
 refine bz (thn ((qS ha jz he) pos2 pins s σ H _ I (yQ (ma:=ma) h)) fun us s1 ⟨vs,H1,I1,r1,q1⟩=>?_) (by rw [he]; rfl) rfl
 obtain ⟨x,F,dx,rfl,sb,tx,po⟩:=q1
 obtain ⟨u,rfl,ru⟩:=uB r1
 cases dx with
 | lst ds=>
  obtain ⟨a,vs,rfl,hq,t⟩:=tx.lst sb
  rw [hK] at hq
  cases ru
  obtain ⟨its,rv,pl0,hz⟩:=I1.list hq
  have pl:s1.heap.IsList a its.toArray:=by
   obtain ⟨o,n,ho,hc1,_,hdt⟩:=pl0
   exact ⟨o,ho,hc1,n,hdt⟩
  refine call_reversed_list pl ?_
  refine eB ?_
  have hs1:=ak (h:=s1.heap) (o:=revObj a ((its.toArray.size:Int) - 1)) 
  have pl2:(s1.heap.push (revObj a ((its.toArray.size:Int) - 1))).IsList a its.toArray:=pl.at fun o eo=>ae _ eo
  obtain ⟨oa,hoa,_⟩:=id pl
  have hne:a≠s1.heap.objs.size:=aD (ap hoa)
  refine qar (s:={ s1 with heap:=s1.heap.push (revObj a ((its.toArray.size:Int) - 1)) }) (I.ok.hd hc) hne ⟨_,ak _ rfl,rfl,rfl⟩ pl2 (by rw [aw,<-rv.length]; exact hz) fun h' tk acc c kp hp hi=>?_
  have kp2:∀ b o,s1.heap.get? b=some o->h'.get? b=some o:=fun b o eo=>kp b o (aD (ap eo)) (ae _ eo)
  have hsz:(s1.heap.push (revObj a ((its.toArray.size:Int) - 1))).objs.size=s1.heap.objs.size+1:=cA ..
  have hq2:H1 (s1.heap.objs.size+1)=none:=I1.hok.fresh (eC _)
  obtain ⟨s2,c2,f2⟩:=kX (u:=.lst vs.reverse) sb hq2
  have hp:h'.get? (s1.heap.objs.size+1)=some { cls:=.type "list",dict:=none,data:=.seq acc c,slots:=#[] }:=by rw [<-hsz]; exact hp
  have goal:EP X pins σ Q (.ref (s1.heap.objs.size+1)) { s1 with heap:=h',toks:=tk }:=
   ⟨.ref (s1.heap.objs.size+1),_,I1.laid (t':=tk) (o:=.lst vs.reverse) kp2 (eC _) ⟨by rw [ei]; exact hz,acc.toList,c,qas rv hi,by simpa using hp⟩,rfl,po _ _ _ s2 c2 ⟨_,rfl,hq2,f2,_,qr,Vw t⟩⟩
  rw [<-hsz] at goal
  exact goal
 | _=>exact po.elim
end
end L2.D2
namespace L2.D2
open PySem PySem.Spec PyProof.Rows
variable {A:Around} {s:Shared} {items:Array Value}
section
variable {prog:Program} {w:World} {E:Value->Shared->Prop}
theorem UP:typeLookup (.type "list") "keys"=pure none:=by rw [typeLookup_type,builtinLookup_eq_fast]; kernel_rfl
theorem zM {a:Addr} {o:Obj} {xs:Array Value} {k:Nat} {Q:Option Value->Shared->Prop} (hh:A.handled=none) (hx:s.heap.get? a=some o) (hc:o.cls=.type "list") (hdat:o.data=.seq xs k) (hd:o.dict=none)
  (h:∀ h' tk,(∀ b ob,s.heap.get? b=some ob->h'.get? b=some ob)->Q none { s with heap:=h',toks:=tk }):wpAny (model prog w) A (getAttr? (.ref a) "keys") Q E s:=by
 obtain ⟨c,dct,dat,sl⟩:=o
 simp only at hc hdat hd
 subst hc hdat hd
 obtain ⟨hp,g,d,tk,os⟩:=s
 have hT:∀ tk',(⟨hp,g,d,tk',os⟩:Shared).TypeIs (.ref a) "list":=fun _=>⟨_,hx,rfl⟩
 have f1:=sub_AttributeError
 have f3:=dD.lookup
 have f4:=dD.bind (.ref a)
 have f5:=am_list_getattr_none
 have f6:=UP
 have hnm:(["__module__", "__name__", "__qualname__", "__doc__", "__annotations__"]:List Str).contains ("keys":Str)=false:=by decide +kernel
 have hsz:("keys":Str).length+100<=sizeLine:=by rw [sizeLine_eq]; decide +kernel
 unfold getAttr? getAttrBy?
 refine wpAny_bind (wpAny_mkText (wpAny_bind (wpAny_attempt ?_)))
 unfold getAttrBy
 repeat (any_goals (first | assumption | exact hT _ | ((with_reducible show wpAny _ _ (call (c6 "list.__getattribute__") _ _) _ _ _); refine call_meets dD (hT _) am_entry_list_getattribute (F.args_list_getattribute_2 _ _) (meets_getattribute_miss_list a xs k sl "keys" _ f6 hnm hsz) ⟨hx,hh,fun h' tk' e hx'=>?_⟩) | wp_step))
 obtain ⟨t',u',he⟩:=hx'.there
 show wpAny _ _ (getattributeRaised _ _ _ _ _ _ _) _ _ _
 unfold getattributeRaised
 repeat (any_goals (first | assumption | wp_step))
 exact h h' tk' hx'.keeps
theorem XS {R:Result->Shared->Prop} {d it t:Addr} (hh:A.in1.handled=none) (hdt:d≠t) (hdi:d≠it) (hti:t≠it):∀ (n i:Nat) (s:Shared) (kvs:List (Key×Value)) (ps:List (Key×Value×Value)),items.size - i=n->i<=items.size ->
  s.heap.IsListIter it t i->s.heap.IsList t items->s.heap.DictOf (qQ prog w) d kvs->ps.length=n->(∀ j p,ps[j]?=some p->∃ v,items[i+j]?=some v/\yO p.1 p.2.1=true/\Kc s.heap v p.2.1 p.2.2)->kvs.length+n<=sizeLine ->
  (∀ h' tk,h'.DictOf (qQ prog w) d (ps.foldl (fun l p=>stored l p.1 p.2.2) kvs)->(∀ b o,b≠d->b≠it->s.heap.get? b=some o->h'.get? b=some o)->R (.ok (.ret .none)) { s with heap:=h',toks:=tk }) ->
  codeAny (model prog w) A (.builtin "dict.update.loop" ⟨[.ref d,.ref it,rawInt i,.none],[]⟩) R s:=by
 intro n
 induction n with
 | zero=>
  intro i s kvs ps hn hi st ht hd hl hp hz hR
  have e:ps=[]:=dL.mp hl
  subst e
  refine codeAny_builtin vm ?_
  rw [aQ ja _]
  show wpAny _ A.in1 (pyNext (.ref it) >>= _) _ _ s
  refine wpAny_bind (wpAny_pyNext_list_end hh st ht (by simp; omega) fun h' eb=>?_)
  show wpAny _ A.in1 (ret cz) _ _ _
  refine wpAny_pure (hR h' s.toks ?_ fun b o _ h2 e=>eb b o h2 e)
  obtain ⟨o,es,ep,ho,r⟩:=hd
  exact ⟨o,es,ep,eb d o hdi ho,r⟩
 | succ n ih=>
  intro i s kvs ps hn hi st ht hd hl hp hz hR
  cases ps with
  | nil=>simp at hl
  | cons p ps=>
   obtain ⟨v,hv,hk,q,oq,nq,rfl,hq,hqc,hqd⟩:=hp 0 p rfl
   obtain ⟨od,es,ep,hod,hdx,hrest⟩:=id hd
   have nqd:q≠d:=fun z=>by
    subst z
    rw [hq] at hod; cases hod
    rw [hrest.1] at hqd; cases hqd
   obtain ⟨oi,hoi,hic,hid⟩:=id st
   have nqi:q≠it:=fun z=>by
    subst z
    rw [hq] at hoi; cases hoi
    rw [hid] at hqd; cases hqd
   refine codeAny_builtin vm ?_
   rw [aQ ja _]
   show wpAny _ A.in1 (pyNext (.ref it) >>= _) _ _ s
   refine wpAny_bind (wpAny_pyNext_list_item st ht (x:=.ref q) (by simpa using hv) fun h' st' sb=>?_)
   have hq':h'.get? q=some oq:=(sb.2 q nqi).trans hq
   have hTq:d6 { s with heap:=h' } (.ref q) "tuple":=⟨oq,hq',hqc⟩
   have hd':h'.DictOf (qQ prog w) d kvs:=by
    obtain ⟨o,es,ep,ho,r⟩:=hd
    exact ⟨o,es,ep,(sb.2 d hdi).trans ho,r⟩
   have ht':h'.IsList t items:=by
    obtain ⟨o,ho,r⟩:=ht
    exact ⟨o,(sb.2 t hti).trans ho,r⟩
   dsimp only
   refine wpAny_bind (wpAny_holding (wpAny_bind ?_))
   refine wpAny_tryCatch ?_
   unfold Builtin.Dict.pairItems
   refine wpAny_bind (wpAny_typeOf hTq ?_)
   rw [if_pos (by decide)]
   refine wpAny_bind (wpAny_seqItems hq' hqd (wpAny_pure ?_))
   show wpAny _ A.in1 (holding [p.2.1,p.2.2] (dictSet d p.2.1 p.2.2)) _ _ _
   refine wpAny_holding (wpAny_dictSet_pairs (knd:=qQ prog w) hk hd' (fun h2 hd2 sb2=>?_) (by omega))
   have keep:∀ b o,b≠d->b≠it->s.heap.get? b=some o->h2.get? b=some o:=fun b o n1 n2 e=>(sb2.2 b n1).trans ((sb.2 b n2).trans e)
   have hlen:(stored kvs p.1 p.2.2).length<=kvs.length+1:=by
    unfold stored
    split <;> simp
   refine wpAny_pure ⟨plainId_quiet ja _,?_⟩
   have ec:rawInt ((i:Int)+1)=rawInt ((i+1:Nat):Int):=by push_cast; rfl
   rw [ec]
   refine ih (i+1) _ (stored kvs p.1 p.2.2) ps (by omega) (by omega) ?_ ?_ hd2 (by simpa using hl) (fun j p' e=>?_) (by omega) fun h3 tk hd3 k3=>?_
   ·obtain ⟨o,e,r⟩:=st'
    exact ⟨o,(sb2.2 it (aU hdi)).trans e,r⟩
   ·obtain ⟨o,e,r⟩:=ht'
    exact ⟨o,(sb2.2 t (aU hdt)).trans e,r⟩
   ·obtain ⟨v',hv',hk',q',oq',nq',rfl,hq2,hqc2,hqd2⟩:=hp (j+1) p' (by simpa using e)
    refine ⟨.ref q',by rw [show i+1+j=i+(j+1) by omega]; exact hv',hk',q',oq',nq',rfl,keep q' oq' (fun z=>?_) (fun z=>?_) hq2,hqc2,hqd2⟩
    ·subst z
     rw [hq2] at hod; cases hod
     rw [hrest.1] at hqd2; cases hqd2
    ·subst z
     rw [hq2] at hoi; cases hoi
     rw [hid] at hqd2; cases hqd2
   ·exact hR h3 tk hd3 fun b o n1 n2 e=>k3 b o n1 n2 (keep b o n1 n2 e)
theorem xO {t:Addr} {ps:List (Key×Value×Value)} {Q:Value->Shared->Prop} (hh:A.handled=none) {ot:Obj} {nt:Nat} (hot:s.heap.get? t=some ot) (hotc:ot.cls=.type "list") (hotd:ot.dict=none) (hots:ot.data=.seq items nt)
  (hl:ps.length=items.size) (hp:∀ (j:Nat) (p:Key×Value×Value),ps[j]?=some p->∃ v,items[j]?=some v/\yO p.1 p.2.1=true/\Kc s.heap v p.2.1 p.2.2) (hz:items.size<=sizeLine)
  (h:∀ h' tk,h'.DictOf (qQ prog w) s.heap.objs.size (ps.foldl (fun l p=>stored l p.1 p.2.2) [])->(∀ b o,s.heap.get? b=some o->h'.get? b=some o)->Q (.ref s.heap.objs.size) { s with heap:=h',toks:=tk }) :
  wpAny (model prog w) A (call (.type "dict") [.ref t]) Q E s:=by
 refine callType_codes (Q₁:=fun obj s₁=>obj=.ref s.heap.objs.size/\s₁={ s with heap:=s.heap.push { cls:=.type "dict",data:=.dict #[] } }) F.kt_called_dict (F.kt_typeCall_dict_1 _) F.entry_dict_init (kt_code_dict_new _ ⟨rfl,rfl⟩) ?_
 rintro obj s₁ ⟨rfl,rfl⟩
 have hnew:(s.heap.push { cls:=.type "dict",data:=.dict #[] }).DictOf (qQ prog w) s.heap.objs.size []:=fh s.heap
 refine ⟨hnew.typeIs,F.args_dict_init_2 _ _,?_⟩
 unfold Builtin.«dict.__init__»
 refine wpAny_bind ?_
 unfold Builtin.Dict.selfAndRest
 refine wpAny_bind (wpAny_notOrdered_dict hnew.typeIs ?_)
 show wpAny _ _ (pure (s.heap.objs.size,[bO t])) _ _ _
 refine wpAny_pure ?_
 show wpAny _ _ (cQ "dict.__init__" s.heap.objs.size (.ref t) [] .none) _ _ _
 unfold cQ
 have hot':(s.heap.push { cls:=.type "dict",data:=.dict #[] }).get? t=some ot:=ae _ hot
 have hlt:t < s.heap.objs.size:=ap hot
 refine wpAny_bind (wpAny_typeOf (T := "list") ⟨ot,hot',hotc⟩ ?_)
 rw [if_pos (by decide)]
 refine wpAny_bind (zM (by exact hh) hot' hotc hots hotd fun h1 tk1 k1=>?_)
 rw [if_pos (show (none:Option Value).isNone=true from rfl)]
 refine wpAny_bind (wpAny_rule ?_)
 have ht1:h1.get? t=some ot:=k1 _ _ hot'
 have hd1:h1.DictOf (qQ prog w) s.heap.objs.size []:=by
  obtain ⟨o,es,ep,ho,r⟩:=hnew
  exact ⟨o,es,ep,k1 _ _ ho,r⟩
 have htup:h1.IsList t items:=⟨ot,ht1,hotc,nt,hots⟩
 refine wpAny_bind (wpAny_pyIter_list (s:={ s with heap:=h1,toks:=tk1 }) htup ?_)
 have hs1:s.heap.objs.size < h1.objs.size:=let ⟨o,es,ep,ho,r⟩:=hd1; ap ho
 have up:∀ b o,s.heap.get? b=some o->(h1.push { cls:=.type "list_iterator",data:=.fields #[.ref t,.int 0 0] }).get? b=some o:=fun b o e=>ae _ (k1 _ _ (ae _ e))
 refine wpAny_pure ⟨plainId_quiet ja _,?_⟩
 refine XS (items:=items) (t:=t) (A:=A.in1) (show A.in1.in1.handled=none from hh) (cf hlt) (aD hs1) (aD (cV hlt hs1)) items.size 0 _ [] ps (by omega) (bq _) ⟨_,ak _ rfl,rfl,rfl⟩ ?_ ?_ hl (fun j p e=>?_) (by simpa using hz) fun h2 tk2 hd2 k2=>⟨rfl,h h2 tk2 hd2 fun b o e=>?_⟩
 ·exact ⟨ot,ae _ ht1,hotc,nt,hots⟩
 ·obtain ⟨o,es,ep,ho,r⟩:=hd1
  exact ⟨o,es,ep,ae _ ho,r⟩
 ·obtain ⟨v,hv,hk,q,oq,nq,rfl,hq,r⟩:=hp j p e
  exact ⟨.ref q,by simpa using hv,hk,q,oq,nq,rfl,up q oq hq,r⟩
 ·have hb:=ap e
  exact k2 b o (aD hb) (aD (cV hb hs1)) (up b o e)
end
noncomputable def Kn:D->Out D
 | .lst ds=>match uE ds with
  | some ps=>.ok (.dct (ps.foldl (fun l p=>Jz l p.1 p.2) []))
  | none=>.bad
 | _=>.bad
section
variable {X:Cx} {C:Ct} {pins:List (Addr×Obj)} {σ:St} {F H:Hp}
theorem qat (hK:C.K=X.K) (hc:X.calm=true):Qk X C .fr (.type "dict") Kn:=by
 intro pins s σ H xs us Q I r h
 obtain ⟨x,F,dx,rfl,sb,tx,po⟩:=h
 cases dx <;> try exact po.elim
 rename_i ds
 unfold Kn at po
 cases q:uE ds with
 | none=>simp only [q] at po; exact po.elim
 | some ps=>
  simp only [q] at po
  obtain ⟨a,vs,rfl,hq,t⟩:=tx.lst sb
  obtain ⟨u,rfl,ru⟩:=uB r
  cases ru
  have hq':SqL X.K H a vs:=by rw [<-hK]; exact hq
  obtain ⟨its,rv,⟨o,n,ho,hcl,hdn,hd⟩,hz⟩:=I.list hq'
  obtain ⟨pv,tr,h1,h2,h3,h3',h4⟩:=Qu hK I sb t rv q
  have hlen:=rv.length
  refine xO (ps:=tr) (I.ok.hd hc) ho hcl hdn hd (by simp [h3]) (fun j p e=>?_) (by simp; omega) fun h' tk hd' kp=>?_
  ·obtain ⟨v,e1,e2⟩:=h4 j p e
   exact ⟨v,by simpa using e1,e2⟩
  ·have hp:H s.heap.objs.size=none:=I.hok.fresh (aB _)
   obtain ⟨s2,c2,hF⟩:=kX (u:=.dK (pv.foldl (fun l p=>xL l p.1 p.2) [])) sb hp
   have hl:(pv.foldl (fun l p=>xL l p.1 p.2) ([]:List (Key×V))).length<=sizeLine:=by
    have:=@Qt pv []
    simp at this
    omega
   have hsys:(s.heap.objs.size == sysModules)=false:=beq_eq_false_iff_ne.mpr (cf I.big)
   refine ⟨.ref s.heap.objs.size,_,I.laid (o:=.dK (pv.foldl (fun l p=>xL l p.1 p.2) [])) (t':=tk) kp (aB _) (YF hl hsys (Vo h2 .nil) hd'),rfl,po _ F _ s2 c2 ⟨_,rfl,hp,hF,_,qr,Qs h1 .nil⟩⟩
end
open PySem.SeqAt
open AutoSeq1 (wpAny_loadPart')
open MeetsSeq MeetsSeq2 MeetsSeq3
def RcLtAt (A:Around) (s:Shared) (y x:Value) (b:Bool):Prop:=
 ∀ (prog:Program) (w:World) (E:Value->Shared->Prop) (Q:Value->Shared->Prop),Q (.bool b) s->wpAny (model prog w) A (richCompare .Lt y x) Q E s
def LtL (A:Around) (s:Shared) (k b:Bool):List (Value×Value)->Prop
 | []=>b=k
 | (y,x)::t=>(EqAt A.in1 s y x true/\LtL A s k b t)\/(EqAt A.in1 s y x false/\RcLtAt A.in1 s y x b)
theorem UQ (l b:Addr) (items items2:Array Value) (n n2:Nat) (dd dd2:Option Addr) (sl sl2:Array (Option Value)) (c:Bool) :
  Meets (Builtin.«tuple.__lt__» ⟨[.ref l,.ref b],[]⟩)
   (fun A R s=>s.heap.get? l=some { cls:=.type "tuple",dict:=dd,data:=.seq items n,slots:=sl }/\s.heap.get? b=some { cls:=.type "tuple",dict:=dd2,data:=.seq items2 n2,slots:=sl2 } /\
    LtL A s (decide (items.size < items2.size)) c (items.toList.zip items2.toList)/\R (.ok (.ret (.bool c))) s):=
 .of_wp fun prog w A R s h=>by
  obtain ⟨hp,g,d,tk,os⟩:=s; obtain ⟨hl,hb,he,h⟩:=h
  have f2:=AutoSeq1.sub_tuple_tuple
  wp_walk using wpAny_loadPart' hl,wpAny_loadPart' hb,wpAny_forIn_list _ (fun rest b s'=>b.1=none/\s'=⟨hp,g,d,tk,os⟩/\LtL A ⟨hp,g,d,tk,os⟩ (decide (items.size < items2.size)) c rest) _
  case turn=>
   rintro ⟨y,x⟩ rest b s' ⟨hb',rfl,hz⟩
   rcases hz with ⟨e1,hz⟩ | ⟨e1,hz⟩
   ·refine wpAny_bind (e1 prog w _ _ ?_)
    wp_walk
    exact ⟨rfl,rfl,hz⟩
   ·refine wpAny_bind (e1 prog w _ _ ?_)
    refine wpAny_bind (wpAny_rule (wpAny_bind (hz prog w _ _ ?_)))
    wp_walk
    exact ⟨_,rfl,h⟩
  case fin=>
   rintro ⟨b1,b2⟩ s' ⟨hb',rfl,hz⟩
   simp only at hb'
   subst hb'
   have hz:c=_:=hz
   subst hz
   wp_walk
   exact ⟨_,rfl,by simpa [Builtin.Tuple.tupleCompareSizes] using h⟩
  case h=>
   exact ⟨rfl,rfl,he⟩
theorem RcLtAt.tuples {l b:Addr} {items2:Array Value} {c:Bool} (hl:s.heap.IsTuple l items) (hb:s.heap.IsTuple b items2) (hu:A.units < cLine)
  (he:LtL A s (decide (items.size < items2.size)) c (items.toList.zip items2.toList)):RcLtAt A s (.ref l) (.ref b) c:=fun prog w E Q h=>by
 obtain ⟨⟨cls,dd,data,sl⟩,ho,hc,n,hd⟩:=id hl
 obtain ⟨⟨cls2,dd2,data2,sl2⟩,ho2,hc2,n2,hd2⟩:=id hb
 simp only at hc hd hc2 hd2
 subst hc hd hc2 hd2
 exact richCompare_meets_room (op:=.Lt) ⟨_,ho,rfl⟩ ⟨_,ho2,rfl⟩ F.slot_tuple_lt F.entry_tuple_lt (F.args_tuple_lt_2 _ _) (UQ l b items items2 n n2 dd dd2 sl sl2 c)
  ⟨ho,ho2,he,show aN c≠Value.notImplemented/\Q (.bool c) s from ⟨(fun x=>nomatch x),h⟩⟩ hu
end L2.D2
namespace L2.D2
open PySem PySem.Spec PyProof.Rows
open PySem.SeqAt
noncomputable def ltZ:List Int->List Int->Bool
 | x::xs,y::ys=>if x=y then ltZ xs ys else decide (x < y)
 | [],_::_=>true
 | _,[]=>false
end L2.D2
namespace L2.D2
open PySem PySem.Spec PyProof.Rows
open AutoSeq1 (wpAny_loadPart')
end L2.D2
namespace L2.D2
open PySem PySem.Spec PyProof.Rows
noncomputable def Itv (K:Frag) (a:Addr) (xs:List V):It:=
 ⟨fun i H=>i < xs.length/\SqL K H a xs,fun i H x H'=>H'=H/\xs.reverse[i]?=some x,fun i H=>xs.length<=i/\SqL K H a xs⟩
variable {K:Frag} {tg:Expr}
theorem qau {P:Program} {w:World} (a it:Addr) (xs:List V):Turn P w K tg (Itv K a xs) [it] it (fun i h=>h.IsRevIter it a ((xs.length:Int) - 1 - i)/\i<=xs.length) where
 mem:=by simp
 obj:=fun i h st b hb=>by
  have e:b=it:=by simpa using hb
  subst e
  obtain ⟨⟨o,e,c,d⟩,_⟩:=st
  exact ⟨o,e,fun v z=>by rw [d] at z; cases z⟩
 keep:=fun i h h' st k=>⟨st.1.at fun o e=>k it (by simp) o e,st.2⟩
 item:=by
  intro X hP hw hK hc i pins s σ H E I hf st hg
  subst hP hw hK
  obtain ⟨hl,hq⟩:=hg
  obtain ⟨its,rv,p,hz⟩:=I.list hq
  have hj:xs.length - 1 - i < xs.length:=by omega
  have hx:xs[xs.length - 1 - i]?=some xs[xs.length - 1 - i]:=aC hj
  obtain ⟨u,hu,ru⟩:=rv.get hx
  obtain ⟨f0,f1,f2,f3,f4,f5⟩:=hf it (by simp)
  have ej:((xs.length:Int) - 1 - i)=((xs.length - 1 - i:Nat):Int):=by omega
  have st1:=st.1
  rw [ej] at st1
  refine wpAny_pyNext_rev_item st1 p.isList (x:=u) (by simpa using hu) fun h' st' sb=>?_
  have I1:Inv X pins σ H { s with heap:=h' }:=I.turned (t':=s.toks) (fun b o hb e=>(sb.2 b hb).trans e) f0 f1 f3 f4 f5
  obtain ⟨o,e,c,d⟩:=id st'
  refine ⟨u,rfl,Yn (s:={ s with heap:=h' }) e c d (by decide) ⟨xs[xs.length - 1 - i],H,I1,ru,⟨rfl,?_⟩,⟨?_,hl⟩,fun b hb=>(hf b hb).1⟩⟩
  ·rw [List.getElem?_reverse (by omega)]
   exact hx
  ·rw [show ((xs.length:Int) - 1 - ((i+1:Nat):Int))=((xs.length - 1 - i:Nat):Int) - 1 by omega]
   exact st'
 done:=by
  intro X hP hw hK hc i pins s σ H E I hf st hg
  subst hP hw hK
  obtain ⟨hl,hq⟩:=hg
  obtain ⟨f0,f1,f2,f3,f4,f5⟩:=hf it (by simp)
  have st1:=st.1
  rw [show ((xs.length:Int) - 1 - i)=-1 by have:=st.2; omega] at st1
  exact wpAny_pyNext_rev_end (I.ok.hd hc) st1 fun h' eb=>⟨rfl,I.turned (t':=s.toks) (fun b o hb e=>eb b o hb e) f0 f1 f3 f4 f5⟩
 self:=fun _ _ _ _ _ st h=>wpAny_pyIter_revIter st.1 h
theorem qav:bootBuiltins "reversed"=some (.type "reversed"):=by decide +kernel
noncomputable def qgE (f:Sl->Out (D×Sl)):Sl->Out (List D×Sl):=fun ρ=>(f ρ).bind fun p=>match p.1 with
 | .lst xs=>.ok (xs.reverse,p.2)
 | _=>.bad
theorem qeE {F:Hp} {a:Addr} {xs:List V} {ds:List D} (p:SqL K F a xs) (t:IsL K F xs ds):ItIs K F (Itv K a xs) ds.reverse where
 go:=fun i H hi s=>⟨by rw [t.length]; simpa using hi,s.seq p⟩
 yld:=fun i Fi H v H' d e s1 s2 y=>by
  obtain ⟨rfl,hx⟩:=y
  obtain ⟨d1,e1,i1⟩:=(Vw t).get hx
  rw [e] at e1
  cases e1
  exact ⟨Fi,.refl,s2,i1.mono s1⟩
 stop:=fun i H hi s=>⟨by rw [t.length]; simpa using hi,s.seq p⟩
section
variable {X:Cx} {C:Ct} {own:List Nat} {a:Expr} {fa:Sl->Out (D×Sl)} {ma:Mo} {pos:Pos}
theorem qeF {ta:TA} {p:Pos} (hg:Gl X "reversed") (hm:X.mg "reversed"=none) (ha:PA X [a] ta) (hs:starEach [a] X.env=[(false,eval a X.env)]) :
  PI X tg (.Call (.Name "reversed" p) [a] [] pos) (fun σ H R=>ta σ H fun vs H1=>∃ a1 xs,vs=[.ref a1]/\SqL X.K H1 a1 xs/\R (Itv X.K a1 xs) H1):=by
 refine ⟨?_⟩
 intro pins s σ H R I h
 refine Call_ (xq I hg hm qav (bz (thn (ha pos pins s σ H _ I h) fun us s1 ⟨vs,H1,I1,r1,q1⟩=>?_) hs rfl))
 obtain ⟨a1,xs,rfl,w1,q⟩:=q1
 obtain ⟨u1,rfl,e1⟩:=uB r1
 cases e1
 obtain ⟨its,v1,pl,_⟩:=I1.list w1
 refine call_reversed_list pl.isList ?_
 have hit:(s1.heap.push (revObj a1 ((its.toArray.size:Int) - 1))).IsRevIter s1.heap.objs.size a1 ((xs.length:Int) - 1 - (0:Nat)):=by
  refine ⟨_,ak _ rfl,rfl,?_⟩
  rw [aw,<-v1.length]
  simp [revObj]
 refine wpAny_pyIter_revIter (s:={ s1 with heap:=s1.heap.push (revObj a1 ((its.toArray.size:Int) - 1)) }) hit ?_
 refine ⟨s1.heap.objs.size,_,_,Itv X.K a1 xs,H1,rfl,I1.kept (t':=s1.toks) fun b o e=>ae _ e,qau a1 s1.heap.objs.size xs,⟨hit,bq _⟩,fun b hb=>?_,q⟩
 have e:b=s1.heap.objs.size:=by simpa using hb
 subst e
 exact I1.fpOk (aB _) (I1.hok.fresh (aB _))
theorem qcM {p:Pos} (hK:C.K=X.K) (hg:Gl X "reversed") (hm:X.mg "reversed"=none) (ha:PE X a (tE C own ma fa)) (h1:ma≠.any:=by decide) (hs:starEach [a] X.env=[(false,eval a X.env)]:=by exact qV rfl) :
  PI X tg (.Call (.Name "reversed" p) [a] [] pos) (tIt C own (qgE fa)):=by
 refine GJ (qeF hg hm (qS (uM ha h1) jz hs) hs) fun σ H R ⟨F,ρ,rp,h⟩=>⟨F,ρ,rp,PoI.bindV h fun v F1 H1 d ρ1 rp1 c1 mo1 h1=>?_⟩
 have mo1:Is C.K F1 v d:=mo1
 cases mo1 with
 | lst p t=>exact ⟨_,_,rfl,by rw [<-hK]; exact rp1.sub.seq p,by rw [<-hK]; exact h1 _ F1 H1 rp1 c1 (qeE p t)⟩
 | _=>exact h1.elim
end
end L2.D2
namespace L2.D2
open PySem PySem.Spec PyProof.Rows PySem.W
end L2.D2
namespace L2.D2
open PySem PySem.Spec PyProof.Rows
end L2.D2
set_option maxHeartbeats 4000000
namespace Kx
open PySem PySem.Spec PyProof.Rows L2 L2.D2
noncomputable def top (i:Nat):Stmt:=PySem.Challenge.pw_lookwords_k10_whole_worths_at.main.body.getD i (.Pass ⟨0,0,0,0⟩)
noncomputable def CS:List Str:=["NoWords", "NoLook", "NoNumbers", "NoRoom", "NoWord", "NoWorths", "Never", "Full", "Known", "NoPlace", "NoLetters", "NoText", "Nothing"]
noncomputable def FS:List Str:=[]
structure Zt (K:Frag) (mg:Str->Option Value) (cv:Str->Value) (ca:Str->Addr):Prop where
 xs:Xs K cv ca CS "WordError"
 mref:∀ c∈CS,mg c=some (.ref (ca c))
 xin:∀ c∈CS,dB K (ca c) bmV "ValueError.__new__"=true
 fref:∀ x∈FS,mg x=some (.ref (ca x))
 m_WordError:mg "WordError"=some (cv "WordError")
 z_ValueError:mg "ValueError"=none
 z_all:mg "all"=none
 z_bool:mg "bool"=none
 z_dict:mg "dict"=none
 z_enumerate:mg "enumerate"=none
 z_int:mg "int"=none
 z_isinstance:mg "isinstance"=none
 z_len:mg "len"=none
 z_list:mg "list"=none
 z_max:mg "max"=none
 z_min:mg "min"=none
 z_range:mg "range"=none
 z_reversed:mg "reversed"=none
 z_set:mg "set"=none
 z_sorted:mg "sorted"=none
 z_str:mg "str"=none
 z_tuple:mg "tuple"=none
 c_LEAST_PLACE:∃ t,mg "LEAST_PLACE"=some (.int (-3) t)
 c_MOST_LETTERS:∃ t,mg "MOST_LETTERS"=some (.int 6 t)
 c_MOST_PLACE:∃ t,mg "MOST_PLACE"=some (.int 2 t)
 c_MOST_ROOM:∃ t,mg "MOST_ROOM"=some (.int 99 t)
 c_MOST_WORDS:∃ t,mg "MOST_WORDS"=some (.int 6 t)
theorem QD:bootBuiltins "ValueError"=some (.type "ValueError"):=by decide +kernel
theorem WM:bootBuiltins "all"=some (.builtin "all"):=by decide +kernel
theorem qcN:bootBuiltins "bool"=some (.type "bool"):=by decide +kernel
theorem XT:bootBuiltins "dict"=some (.type "dict"):=by decide +kernel
theorem qeG:bootBuiltins "int"=some (.type "int"):=by decide +kernel
theorem qx:bootBuiltins "isinstance"=some (.builtin "isinstance"):=by decide +kernel
theorem jn:bootBuiltins "len"=some (.builtin "len"):=by decide +kernel
theorem QE:bootBuiltins "list"=some (.type "list"):=by decide +kernel
theorem qbl:bootBuiltins "max"=some (.builtin "max"):=by decide +kernel
theorem qeH:bootBuiltins "min"=some (.builtin "min"):=by decide +kernel
theorem qaw:bootBuiltins "range"=some (.type "range"):=by decide +kernel
theorem Vx:bootBuiltins "reversed"=some (.type "reversed"):=by decide +kernel
theorem XU:bootBuiltins "set"=some (.type "set"):=by decide +kernel
theorem yz:bootBuiltins "sorted"=some (.builtin "sorted"):=by decide +kernel
theorem qbm:bootBuiltins "str"=some (.type "str"):=by decide +kernel
theorem wb:bootBuiltins "tuple"=some (.type "tuple"):=by decide +kernel
instance {α:Type}:Inhabited (Out α):=⟨.bad⟩
section
variable {P:Program} {w:World} {K:Frag} {mg:Str->Option Value} {base:Heap} {cv:Str->Value} {ca:Str->Addr}
abbrev ur:Stmt:=top 56
abbrev gU:List Str:=["_law_script", "_law_k"]
theorem Vy:FnScope gU ["_law_script", "_law_k"] (qf ur):=⟨rfl,rfl,rfl,by decide +kernel,rfl,by decide +kernel,by decide +kernel⟩
noncomputable def vK:Sl->Out (Fl×Sl):=(qW (sIf (jg (d2 ltD (qe 1) (d1 jI (qe 0)))) (jL (d2 ixD (qe 0) (qe 1))) jN)
  (qW (sIf (jg (d2 eqD (qe 0) (wL qC))) (jL (dC (.int 0))) jN)
  (jL (d2 kt (d2 Ye (d2 ixD (qe 0) (d2 vW (qe 1) (d1 jI (qe 0)))) (dC (.int 31))) (qe 1)))))
noncomputable abbrev yU:List D->Out (D×List D):=km gU [.val,.val] (vK)
abbrev zN P w K mg base cv:=DefOk P w K mg base cv 1 "_law_cell_at" ["_law_script", "_law_k"] [.val,.val] .sh (yU)
theorem Vz (Z:Zt K mg cv ca) (T:jf K mg "_law_cell_at" ur ["_law_script", "_law_k"]):zN P w K mg base cv:=
 qL (k:=0) (own':=[]) (fb:=vK) T Vy fun cdv f A outer s H E hr=>(ql (jA (qX qgc (vr 1) (qG (jr rfl) rfl Z.z_len jn (vr 0))) (qo (qp (jp rfl hr.units (vr 0) (vr 1) (fun _ _=>rfl)))) jb)
  (ql (jA (qX (uO rfl hr.units) (vr 0) (jB qg)) (qo (qp qt)) jb)
  (qo (qp (qT (jJ rfl) (qT JO (jp rfl hr.units (vr 0) (qT kx (vr 1) (qG (jr rfl) rfl Z.z_len jn (vr 0))) (fun _ _=>rfl)) qt) (vr 1))))))
abbrev xZ:Stmt:=top 57
abbrev WN:List Str:=["_law_script", "_law_k", "_law_many", "_law_drawn"]
theorem sc_Lmixed:FnScope WN ["_law_script", "_law_k", "_law_many"] (qf xZ):=⟨rfl,rfl,rfl,by decide +kernel,rfl,by decide +kernel,by decide +kernel⟩
noncomputable def QF:Sl->Out (Fl×Sl):=(qW (jE 3 (d2 vW (d2 kt (d2 kt (d2 Ye (qv [.vl,.vl] yU (qd (qe 0) (qd (qe 1) qC))) (dC (.int 1103515245))) (d2 Ye (dC (.int 7919)) (qe 1))) (dC (.int 12345))) (dC (.int 2147483647))))
  (jL (d2 vW (d2 vW (d2 vW (d2 qgD (qe 3) (dC (.int 5))) (dC (.int 2147483647))) (dC (.int 999983))) (qe 2))))
noncomputable abbrev QG:List D->Out (D×List D):=km WN [.val,.val,.val] (QF)
abbrev Ko P w K mg base cv:=DefOk P w K mg base cv 2 "_law_mixed" ["_law_script", "_law_k", "_law_many"] [.val,.val,.val] .sh (QG)
theorem XV (Z:Zt K mg cv ca) (T:jf K mg "_law_mixed" xZ ["_law_script", "_law_k", "_law_many"]) (ok_Lcell_at:zN P w K mg base cv):Ko P w K mg base cv:=
 qL (k:=1) (own':=[]) (fb:=QF) T sc_Lmixed fun cdv f A outer s H E hr=>(ql (qK (i:=3) sc_Lmixed.nd rfl (ax rfl) (qT kx (qT (jJ rfl) (qT (jJ rfl) (qT JO (qm ok_Lcell_at hr (by decide) qP rfl (qc (vr 0) (qc (vr 1) qg))) qt) (qT JO qt (vr 1))) qt) qt))
  (qo (qp (qT kx (qT kx (qT kx (qT qey (vr 3) qt) qt) qt) (vr 2)))))
abbrev QH:Stmt:=top 58
abbrev XW:List Str:=["_law_script", "_law_town", "_law_many"]
theorem qax:FnScope XW ["_law_script", "_law_town", "_law_many"] (qf QH):=⟨rfl,rfl,rfl,by decide +kernel,rfl,by decide +kernel,by decide +kernel⟩
noncomputable def VA:Sl->Out (Fl×Sl):=(qW (kD (zz 1 Qq (dC (.int 0))))
  (jL (qv [.vl,.vl,.vl] QG (qd (qe 0) (qd (d1 jI (qe 1)) (qd (qe 2) qC))))))
noncomputable abbrev jv:List D->Out (D×List D):=km XW [.val,.io,.val] (VA)
abbrev wc P w K mg base cv:=DefOk P w K mg base cv 3 "_law_draw" ["_law_script", "_law_town", "_law_many"] [.val,.io,.val] .sh (jv)
theorem qay (Z:Zt K mg cv ca) (T:jf K mg "_law_draw" QH ["_law_script", "_law_town", "_law_many"]) (ok_Lmixed:Ko P w K mg base cv):wc P w K mg base cv:=
 qL (k:=2) (own':=[1]) (fb:=VA) T qax fun cdv f A outer s H E hr=>(ql (ju (vH (i:=1) rfl rfl (ax rfl) (by decide) qt))
  (qo (qp (qm ok_Lmixed hr (by decide) qP rfl (qc (vr 0) (qc (qG (jr rfl) rfl Z.z_len jn (kC (i:=1) rfl (ax rfl) (by decide))) (qc (vr 2) qg)))))))
abbrev QI:Stmt:=top 59
abbrev XX:List Str:=["_law_script", "_law_town", "_law_some"]
theorem qaz:FnScope XX ["_law_script", "_law_town", "_law_some"] (qf QI):=⟨rfl,rfl,rfl,by decide +kernel,rfl,by decide +kernel,by decide +kernel⟩
noncomputable def VB:Sl->Out (Fl×Sl):=(jL (d2 ixD (qe 2) (qv [.vl,.sl 1,.vl] jv (qd (qe 0) (jO (qd (d1 jI (qe 2)) qC))))))
noncomputable abbrev yV:List D->Out (D×List D):=km XX [.val,.io,.val] (VB)
abbrev za P w K mg base cv:=DefOk P w K mg base cv 4 "_law_pick" ["_law_script", "_law_town", "_law_some"] [.val,.io,.val] .sh (yV)
theorem qaA (Z:Zt K mg cv ca) (T:jf K mg "_law_pick" QI ["_law_script", "_law_town", "_law_some"]) (ok_Ldraw:wc P w K mg base cv):za P w K mg base cv:=
 qL (k:=3) (own':=[1]) (fb:=VB) T qaz fun cdv f A outer s H E hr=>(qo (qp (jp rfl hr.units (vr 2) (qm ok_Ldraw hr (by decide) qP rfl (qc (vr 0) (qY (i:=1) rfl (ax rfl) (by decide) (qc (qG (jr rfl) rfl Z.z_len jn (vr 2)) qg)))) (fun _ _=>rfl))))
abbrev UR:Stmt:=top 63
abbrev qcO:List Str:=["_law_word_here", "_law_place", "_law_spots"]
theorem sc_Lat:FnScope qcO ["_law_word_here", "_law_place"] (qf UR):=⟨rfl,rfl,rfl,by decide +kernel,rfl,by decide +kernel,by decide +kernel⟩
noncomputable def qeI:Sl->Out (Fl×Sl):=(qW (jE 2 (jC [] 1 [1,0] (jw (d1 jI (qe 0))) (gNm 0) (dOr (jg (d2 eqD (qe 0) (qe 1))) (jg (d2 eqD (qe 0) (d2 kt (qe 1) (d1 jI (qe 2)))))) (qe 0)))
  (qW (sIf (jg (d2 neD (qe 2) (wL qC))) (jL (d2 ixD (qe 0) (d2 ixD (qe 2) (dC (.int 0))))) jN)
  (jL (dIf (jg (d2 geD (qe 1) (dC (.int 0)))) (d2 ixD (qe 0) (d1 qcq (dC (.int 1)))) (d2 ixD (qe 0) (dC (.int 0)))))))
noncomputable abbrev XY:List D->Out (D×List D):=km qcO [.val,.val] (qeI)
abbrev qbn P w K mg base cv:=DefOk P w K mg base cv 1 "_law_at" ["_law_word_here", "_law_place"] [.val,.val] .sh (XY)
theorem qeJ (Z:Zt K mg cv ca) (T:jf K mg "_law_at" UR ["_law_word_here", "_law_place"]):qbn P w K mg base cv:=
 qL (k:=0) (own':=[]) (fb:=qeI) T sc_Lat fun cdv f A outer s H E hr=>(ql (yn (N:=["_law_at_here", "_law_place", "_law_word_here"]) (nt:=1) (cap:=[1,0]) sc_Lat.nd (i:=2) rfl (ax rfl) rfl (wG (names:=(qf UR).names) rfl (by decide +kernel)) (ki (names:=(qf UR).names) (N:=qcO) rfl rfl (by decide +kernel)) (kP rfl Z.z_range (qG (jr rfl) rfl Z.z_len jn (vr 0))) (fun fp L s1 H1=>(qw (i:=0) (show aX (["_law_at_here", "_law_place", "_law_word_here"]:List Str) from by decide +kernel) rfl (ax rfl))) (fun fp L s1 H1=>(Qp (PW.pt (zx (qX (uO rfl hr.units) (vr 0) (vr 1)) (vY (qX (uO rfl hr.units) (vr 0) (qT (jJ rfl) (vr 1) (qG (jr rfl) rfl Z.z_len jn (vr 2))))))))) (fun fp L s1 H1=>(vr 0)))
  (kH [2] (ql (jA (qX (Vf rfl hr.units) (vr 2) (jB qg)) (qo (qp (jp rfl hr.units (vr 0) (jp rfl hr.units (vr 2) qt (fun _ _=>rfl)) (fun _ _=>rfl)))) jb)
  (qo (qp (Uv (qX qea (vr 1) qt) (jp rfl hr.units (vr 0) (GB Wv qt) (fun _ _=>rfl)) (jp rfl hr.units (vr 0) qt (fun _ _=>rfl))))))))
abbrev yW:Stmt:=top 64
abbrev QJ:List Str:=["_law_words_here", "_law_look_here"]
theorem qaB:FnScope QJ ["_law_words_here", "_law_look_here"] (qf yW):=⟨rfl,rfl,rfl,by decide +kernel,rfl,by decide +kernel,by decide +kernel⟩
noncomputable def VC:Sl->Out (Fl×Sl):=(jL (jC [] 1 [1] (kG (qe 0)) (gNm 0) ftT (vj (qd (qv [.vl,.vl] XY (qd (qe 0) (qd (d2 ixD (qe 1) (dC (.int 0))) qC))) (qd (qv [.vl,.vl] XY (qd (qe 0) (qd (d2 ixD (qe 1) (dC (.int 1))) qC))) qC)))))
noncomputable abbrev zO:List D->Out (D×List D):=km QJ [.val,.val] (VC)
abbrev QK P w K mg base cv:=DefOk P w K mg base cv 2 "_law_seen" ["_law_words_here", "_law_look_here"] [.val,.val] .sh (zO)
theorem qaC (Z:Zt K mg cv ca) (T:jf K mg "_law_seen" yW ["_law_words_here", "_law_look_here"]) (ok_Lat:qbn P w K mg base cv):QK P w K mg base cv:=
 qL (k:=1) (own':=[]) (fb:=VC) T qaB fun cdv f A outer s H E hr=>(qo (qp (kn (N:=["_law_word_here", "_law_look_here"]) (nt:=1) (cap:=[1]) rfl (wG (names:=(qf yW).names) rfl (by decide +kernel)) (ki (names:=(qf yW).names) (N:=QJ) rfl rfl (by decide +kernel)) (qZ rfl (vr 0)) (fun fp L s1 H1=>(qw (i:=0) (show aX (["_law_word_here", "_law_look_here"]:List Str) from by decide +kernel) rfl (ax rfl))) (fun fp L s1 H1=>jy) (fun fp L s1 H1=>(jQ (qc (qm ok_Lat hr (by decide) uR rfl (qc (vr 0) (qc (jp rfl hr.units (vr 1) qt (fun _ _=>rfl)) qg))) (qc (qm ok_Lat hr (by decide) uR rfl (qc (vr 0) (qc (jp rfl hr.units (vr 1) qt (fun _ _=>rfl)) qg))) qg)))))))
abbrev US:Stmt:=top 66
abbrev qaD:List Str:=["_law_words_here", "_law_look_here", "_law_room", "_law_book"]
theorem qeK:FnScope qaD ["_law_words_here", "_law_look_here", "_law_room", "_law_book"] (qf US):=⟨rfl,rfl,rfl,by decide +kernel,rfl,by decide +kernel,by decide +kernel⟩
noncomputable def qcP:Sl->Out (Fl×Sl):=(jL (d1 yt (jC [] 2 [2,3] (kG (qv [.vl,.vl] zO (qd (qe 0) (qd (qe 1) qC)))) (kg 2 (qH (gNm 0) (qH (gNm 1) kf))) ftT (d2 vW (d2 kt (d2 ixD (qe 3) (qe 0)) (d2 ixD (qe 3) (qe 1))) (qe 2)))))
noncomputable abbrev XZ:List D->Out (D×List D):=km qaD [.val,.val,.val,.val] (qcP)
abbrev Za P w K mg base cv:=DefOk P w K mg base cv 3 "_law_by" ["_law_words_here", "_law_look_here", "_law_room", "_law_book"] [.val,.val,.val,.val] .sh (XZ)
theorem qeL (Z:Zt K mg cv ca) (T:jf K mg "_law_by" US ["_law_words_here", "_law_look_here", "_law_room", "_law_book"]) (ok_Lseen:QK P w K mg base cv):Za P w K mg base cv:=
 qL (k:=2) (own':=[]) (fb:=qcP) T qeK fun cdv f A outer s H E hr=>(qo (qp (ky (xW rfl) rfl Z.z_tuple wb (kn (N:=["_law_one", "_law_other", "_law_room", "_law_book"]) (nt:=2) (cap:=[2,3]) rfl (wG (names:=(qf US).names) rfl (by decide +kernel)) (ki (names:=(qf US).names) (N:=qaD) rfl rfl (by decide +kernel)) (qZ rfl (qm ok_Lseen hr (by decide) qP rfl (qc (vr 0) (qc (vr 1) qg)))) (fun fp L s1 H1=>(wa rfl rfl (qO (qw (i:=0) (show aX (["_law_one", "_law_other", "_law_room", "_law_book"]:List Str) from by decide +kernel) rfl (ax rfl)) (qO (qw (i:=1) (show aX (["_law_one", "_law_other", "_law_room", "_law_book"]:List Str) from by decide +kernel) rfl (ax rfl)) kI)))) (fun fp L s1 H1=>jy) (fun fp L s1 H1=>(qT kx (qT (jJ rfl) (jp rfl hr.units (vr 3) (vr 0) (fun _ _=>rfl)) (jp rfl hr.units (vr 3) (vr 1) (fun _ _=>rfl))) (vr 2)))))))
abbrev yX:Stmt:=top 60
abbrev VD:List Str:=["_law_script", "_law_town", "_law_letters_here", "_law_most"]
theorem qaE:FnScope VD ["_law_script", "_law_town", "_law_letters_here", "_law_most"] (qf yX):=⟨rfl,rfl,rfl,by decide +kernel,rfl,by decide +kernel,by decide +kernel⟩
noncomputable def VE:Sl->Out (Fl×Sl):=(jL (d1 (XD "") (jC [1] 1 [0,1,2] (jw (d2 kt (dC (.int 1)) (qv [.vl,.sl 1,.vl] jv (qd (qe 0) (jO (qd (qe 3) qC)))))) (gNm 0) ftT (qv [.vl,.sl 2,.vl] yV (qd (qe 1) (jO (qd (qe 3) qC)))))))
noncomputable abbrev QL:List D->Out (D×List D):=km VD [.val,.io,.val,.val] (VE)
abbrev WO P w K mg base cv:=DefOk P w K mg base cv 5 "_law_word" ["_law_script", "_law_town", "_law_letters_here", "_law_most"] [.val,.io,.val,.val] .sh (QL)
theorem qaF (Z:Zt K mg cv ca) (T:jf K mg "_law_word" yX ["_law_script", "_law_town", "_law_letters_here", "_law_most"]) (ok_Ldraw:wc P w K mg base cv) (ok_Lpick:za P w K mg base cv):WO P w K mg base cv:=
 qL (k:=4) (own':=[1]) (fb:=VE) T qaE fun cdv f A outer s H E hr=>(qo (qp (qcF rfl (kn (N:=["_law_k", "_law_script", "_law_town", "_law_letters_here"]) (nt:=1) (cap:=[0,1,2]) rfl (wG (names:=(qf yX).names) rfl (by decide +kernel)) (ki (names:=(qf yX).names) (N:=VD) rfl rfl (by decide +kernel)) (kP rfl Z.z_range (qT (jJ rfl) qt (qm ok_Ldraw hr (by decide) qP rfl (qc (vr 0) (qY (i:=1) rfl (bB (ax rfl)) (by decide) (qc (vr 3) qg)))))) (fun fp L s1 H1=>(qw (i:=0) (show aX (["_law_k", "_law_script", "_law_town", "_law_letters_here"]:List Str) from by decide +kernel) rfl (ax rfl))) (fun fp L s1 H1=>jy) (fun fp L s1 H1=>(qm ok_Lpick hr (by decide) uR rfl (qc (vr 1) (qY (i:=2) rfl (by first | exact bB (bB rfl) | exact bB (ax rfl)) (by decide) (qc (vr 3) qg)))))))))
abbrev zb:Stmt:=top 61
abbrev WP:List Str:=["_law_script", "_law_town", "_law_most", "_law_letters_here", "_law_made", "_law_k", "_law_word_here"]
theorem sc_Lwords:FnScope WP ["_law_script", "_law_town", "_law_most"] (qf zb):=⟨rfl,rfl,rfl,by decide +kernel,rfl,by decide +kernel,by decide +kernel⟩
noncomputable def QM:Sl->Out (Fl×Sl):=(qW (jE 3 (qv [.vl,.sl 1,.vl] yV (qd (qe 0) (jO (qd (wL fun ρ=>.ok ([(.lst [(.str "a"),(.str "b")]),(.lst [(.str "a"),(.str "b"),(.str "c")]),(.lst [(.str "a"),(.str "b"),(.str "c"),(.str "d")]),(.lst [(.str "k"),(.str "m"),(.str "z"),(.str "a"),(.str "e")])],ρ)) qC)))))
  (qW (jE 4 (wL qC))
  (qW (gA (jw (d2 kt (dC (.int 1)) (qv [.vl,.sl 1,.vl] jv (qd (qe 0) (jO (qd (qe 2) qC)))))) (gNm 5)
  (qW (jE 6 (qv [.vl,.sl 1,.vl,.vl] QL (qd (qe 0) (jO (qd (qe 3) (qd (dC (.int 6)) qC))))))
  (sIf (jg (d2 Qv (qe 6) (qe 4))) (kD (zz 4 Qq (qe 6))) jN)))
  (jL (d1 yt (qe 4))))))
noncomputable abbrev QN:List D->Out (D×List D):=km WP [.val,.io,.val] (QM)
abbrev Kp P w K mg base cv:=DefOk P w K mg base cv 6 "_law_words" ["_law_script", "_law_town", "_law_most"] [.val,.io,.val] .sh (QN)
theorem Zb (Z:Zt K mg cv ca) (T:jf K mg "_law_words" zb ["_law_script", "_law_town", "_law_most"]) (ok_Ldraw:wc P w K mg base cv) (ok_Lpick:za P w K mg base cv) (ok_Lword:WO P w K mg base cv):Kp P w K mg base cv:=
 qL (k:=5) (own':=[1]) (fb:=QM) T sc_Lwords fun cdv f A outer s H E hr=>(ql (qK (i:=3) sc_Lwords.nd rfl (ax rfl) (qm ok_Lpick hr (by decide) qP rfl (qc (vr 0) (qY (i:=1) rfl (ax rfl) (by decide) (qc (XM 16 rfl) qg)))))
  (ql (jM (i:=4) sc_Lwords.nd rfl (ax rfl) (jB qg))
  (ql (jP aL rfl (kP rfl Z.z_range (qT (jJ rfl) qt (qm ok_Ldraw hr (by decide) qP rfl (qc (vr 0) (qY (i:=1) rfl (ax rfl) (by decide) (qc (vr 2) qg)))))) (qw (i:=5) sc_Lwords.nd rfl (ax rfl))
  (ql (qK (i:=6) sc_Lwords.nd rfl (ax rfl) (qm ok_Lword hr (by decide) qP rfl (qc (vr 0) (qY (i:=1) rfl (ax rfl) (by decide) (qc (vr 3) (qc qt qg))))))
  (qo (jA (qX (yu rfl hr.units) (vr 6) (kC (i:=4) rfl (ax rfl) (by decide))) (qo (ju (vH (i:=4) rfl rfl (ax rfl) (by decide) (vr 6)))) jb))))
  (qo (qp (ky (xW rfl) rfl Z.z_tuple wb (kC (i:=4) rfl (ax rfl) (by decide))))))))
abbrev QO:Stmt:=top 62
abbrev Zc:List Str:=["_law_script", "_law_town"]
theorem qaG:FnScope Zc ["_law_script", "_law_town"] (qf QO):=⟨rfl,rfl,rfl,by decide +kernel,rfl,by decide +kernel,by decide +kernel⟩
noncomputable def VF:Sl->Out (Fl×Sl):=(jL (vj (qd (d2 Qi (qv [.vl,.sl 1,.vl] jv (qd (qe 0) (jO (qd (dC (.int 6)) qC)))) (dC (.int 3))) (qd (d2 Qi (qv [.vl,.sl 1,.vl] jv (qd (qe 0) (jO (qd (dC (.int 6)) qC)))) (dC (.int 3))) qC))))
noncomputable abbrev VG:List D->Out (D×List D):=km Zc [.val,.io] (VF)
abbrev WQ P w K mg base cv:=DefOk P w K mg base cv 4 "_law_look" ["_law_script", "_law_town"] [.val,.io] .sh (VG)
theorem qaH (Z:Zt K mg cv ca) (T:jf K mg "_law_look" QO ["_law_script", "_law_town"]) (ok_Ldraw:wc P w K mg base cv):WQ P w K mg base cv:=
 qL (k:=3) (own':=[1]) (fb:=VF) T qaG fun cdv f A outer s H E hr=>(qo (qp (jQ (qc (qT zv (qm ok_Ldraw hr (by decide) qP rfl (qc (vr 0) (qY (i:=1) rfl (ax rfl) (by decide) (qc qt qg)))) qt) (qc (qT zv (qm ok_Ldraw hr (by decide) qP rfl (qc (vr 0) (qY (i:=1) rfl (ax rfl) (by decide) (qc qt qg)))) qt) qg)))))
abbrev ut:Stmt:=top 65
abbrev gW:List Str:=["_law_words_here", "_law_look_here", "_law_made", "_law_pair"]
theorem sc_Lletters:FnScope gW ["_law_words_here", "_law_look_here"] (qf ut):=⟨rfl,rfl,rfl,by decide +kernel,rfl,by decide +kernel,by decide +kernel⟩
noncomputable def yY:Sl->Out (Fl×Sl):=(qW (jE 2 (wL qC))
  (qW (gA (kG (qv [.vl,.vl] zO (qd (qe 0) (qd (qe 1) qC)))) (gNm 3)
  (kD (zz 2 Xk (d1 UC (qe 3)))))
  (jL (d1 uq (qe 2)))))
noncomputable abbrev kR:List D->Out (D×List D):=km gW [.val,.val] (yY)
abbrev uT P w K mg base cv:=DefOk P w K mg base cv 3 "_law_letters" ["_law_words_here", "_law_look_here"] [.val,.val] .sh (kR)
theorem VH (Z:Zt K mg cv ca) (T:jf K mg "_law_letters" ut ["_law_words_here", "_law_look_here"]) (ok_Lseen:QK P w K mg base cv):uT P w K mg base cv:=
 qL (k:=2) (own':=[]) (fb:=yY) T sc_Lletters fun cdv f A outer s H E hr=>(ql (jM (i:=2) sc_Lletters.nd rfl (ax rfl) (jB qg))
  (ql (jP aL rfl (qZ rfl (qm ok_Lseen hr (by decide) qP rfl (qc (vr 0) (qc (vr 1) qg)))) (qw (i:=3) sc_Lletters.nd rfl (ax rfl))
  (qo (ju (yq (i:=2) rfl (ax rfl) (by decide) (ky (Xl rfl) rfl Z.z_list QE (vr 3))))))
  (qo (qp (gS rfl rfl rfl Z.z_sorted yz rfl Z.z_set XU (kC (i:=2) rfl (ax rfl) (by decide)))))))
abbrev yZ:Stmt:=top 67
abbrev QP:List Str:=["_law_script", "_law_town", "_law_most", "_law_wide", "_law_spoil", "_law_room", "_law_look_here", "_law_names", "_law_book", "_law_numbers", "_law_k"]
theorem sc_Ltold:FnScope QP ["_law_script", "_law_town", "_law_most", "_law_wide"] (qf yZ):=⟨rfl,rfl,rfl,by decide +kernel,rfl,by decide +kernel,by decide +kernel⟩
noncomputable def VI:Sl->Out (Fl×Sl):=(qW (jE 4 (qv [.vl,.sl 1,.vl] jv (qd (qe 0) (jO (qd (dC (.int 4)) qC)))))
  (qW (jE 5 (d2 kt (dC (.int 1)) (qv [.vl,.sl 1,.vl] jv (qd (qe 0) (jO (qd (qe 3) qC))))))
  (qW (jE 6 (qv [.vl,.sl 1] VG (qd (qe 0) (jO qC))))
  (qW (jE 7 (qv [.vl,.sl 1,.vl] QN (qd (qe 0) (jO (qd (qe 2) qC)))))
  (qW (jE 8 (d1 Kn (jC [1] 1 [0,1,5] (kG (qv [.vl,.vl] kR (qd (qe 7) (qd (qe 6) qC)))) (gNm 0) ftT (vj (qd (qe 0) (qd (qv [.vl,.sl 2,.vl] jv (qd (qe 1) (jO (qd (qe 3) qC)))) qC))))))
  (qW (jE 9 (d1 UC (qv [.vl,.vl,.vl,.vl] XZ (qd (qe 7) (qd (qe 6) (qd (qe 5) (qd (qe 8) qC)))))))
  (qW (gA (jw (d2 Ye (d2 yP (qe 4) (dC (.int 2))) (d2 kt (dC (.int 1)) (d2 vW (qe 4) (dC (.int 2)))))) (gNm 10)
  (WK 9 (qv [.vl,.sl 1,.vl] jv (qd (qe 0) (jO (qd (qe 5) qC)))) (qv [.vl,.sl 1,.vl] jv (qd (qe 0) (jO (qd (d1 jI (qe 9)) qC))))))
  (jL (vj (qd (qe 7) (qd (qe 6) (qd (qe 5) (qd (d1 yt (qe 9)) qC)))))))))))))
noncomputable abbrev VJ:List D->Out (D×List D):=km QP [.val,.io,.val,.val] (VI)
abbrev WR P w K mg base cv:=DefOk P w K mg base cv 7 "_law_told" ["_law_script", "_law_town", "_law_most", "_law_wide"] [.val,.io,.val,.val] .sh (VJ)
theorem qaI (Z:Zt K mg cv ca) (T:jf K mg "_law_told" yZ ["_law_script", "_law_town", "_law_most", "_law_wide"]) (ok_Ldraw:wc P w K mg base cv) (ok_Lwords:Kp P w K mg base cv) (ok_Llook:WQ P w K mg base cv) (ok_Lletters:uT P w K mg base cv) (ok_Lby:Za P w K mg base cv):WR P w K mg base cv:=
 qL (k:=6) (own':=[1]) (fb:=VI) T sc_Ltold fun cdv f A outer s H E hr=>(ql (qK (i:=4) sc_Ltold.nd rfl (ax rfl) (qm ok_Ldraw hr (by decide) qP rfl (qc (vr 0) (qY (i:=1) rfl (bB (ax rfl)) (by decide) (qc qt qg)))))
  (ql (qK (i:=5) sc_Ltold.nd rfl (bB rfl) (qT (jJ rfl) qt (qm ok_Ldraw hr (by decide) qP rfl (qc (vr 0) (qY (i:=1) rfl (bB (ax rfl)) (by decide) (qc (vr 3) qg))))))
  (ql (qK (i:=6) sc_Ltold.nd rfl (ax rfl) (qm ok_Llook hr (by decide) qP rfl (qc (vr 0) (qY (i:=1) rfl (bB (ax rfl)) (by decide) qg))))
  (ql (qK (i:=7) sc_Ltold.nd rfl (ax rfl) (qm ok_Lwords hr (by decide) qP rfl (qc (vr 0) (qY (i:=1) rfl (bB (ax rfl)) (by decide) (qc (vr 2) qg)))))
  (ql (qK (i:=8) sc_Ltold.nd rfl (ax rfl) (ky (qat rfl rfl) rfl Z.z_dict XT (kn (N:=["_law_letter", "_law_script", "_law_town", "_law_room"]) (nt:=1) (cap:=[0,1,5]) rfl (wG (names:=(qf yZ).names) rfl (by decide +kernel)) (ki (names:=(qf yZ).names) (N:=QP) rfl rfl (by decide +kernel)) (qZ rfl (qm ok_Lletters hr (by decide) qP rfl (qc (vr 7) (qc (vr 6) qg)))) (fun fp L s1 H1=>(qw (i:=0) (show aX (["_law_letter", "_law_script", "_law_town", "_law_room"]:List Str) from by decide +kernel) rfl (ax rfl))) (fun fp L s1 H1=>jy) (fun fp L s1 H1=>(jQ (qc (vr 0) (qc (qm ok_Ldraw hr (by decide) uR rfl (qc (vr 1) (qY (i:=2) rfl (by first | exact bB (bB rfl) | exact bB (ax rfl)) (by decide) (qc (vr 3) qg)))) qg)))))))
  (ql (jM (i:=9) sc_Ltold.nd rfl (ax rfl) (ky (Xl rfl) rfl Z.z_list QE (qm ok_Lby hr (by decide) qP rfl (qc (vr 7) (qc (vr 6) (qc (vr 5) (qc (vr 8) qg)))))))
  (ql (jP aL rfl (kP rfl Z.z_range (qT JO (qT zw (vr 4) qt) (qT (jJ rfl) qt (qT kx (vr 4) qt)))) (qw (i:=10) sc_Ltold.nd rfl (ax rfl))
  (qo (XN (n:=9) rfl (ax rfl) (by decide) (qm ok_Ldraw hr (by decide) qP rfl (qc (vr 0) (qY (i:=1) rfl (bB (ax rfl)) (by decide) (qc (vr 5) qg)))) (qm ok_Ldraw hr (by decide) qP rfl (qc (vr 0) (qY (i:=1) rfl (bB (ax rfl)) (by decide) (qc (qG (jr rfl) rfl Z.z_len jn (kC (i:=9) rfl (ax rfl) (by decide))) qg)))))))
  (qo (qp (jQ (qc (vr 7) (qc (vr 6) (qc (vr 5) (qc (ky (xW rfl) rfl Z.z_tuple wb (kC (i:=9) rfl (ax rfl) (by decide))) qg))))))))))))))
abbrev uu:Stmt:=top 68
abbrev zc:List Str:=["_law_words_here", "_law_look_here", "_law_room", "_law_rows", "_law_letter", "_law_longer", "_law_line"]
theorem sc_Levery:FnScope zc ["_law_words_here", "_law_look_here", "_law_room"] (qf uu):=⟨rfl,rfl,rfl,by decide +kernel,rfl,by decide +kernel,by decide +kernel⟩
noncomputable def QQ:Sl->Out (Fl×Sl):=(qW (jE 3 (wL fun ρ=>.ok ([(.tup [])],ρ)))
  (qW (gA (kG (qv [.vl,.vl] kR (qd (qe 0) (qd (qe 1) qC)))) (gNm 4)
  (qW (jE 5 (wL qC))
  (qW (gA (kG (qe 3)) (gNm 6)
  (kD (zz 5 Xk (jC [5] 1 [6,4] (jw (qe 2)) (gNm 0) ftT (d2 kt (qe 1) (vj (qd (vj (qd (qe 2) (qd (qe 0) qC))) qC)))))))
  (jE 3 (qe 5)))))
  (jL (qe 3))))
noncomputable abbrev zd:List D->Out (D×List D):=km zc [.val,.val,.val] (QQ)
abbrev Kq P w K mg base cv:=DefOk P w K mg base cv 4 "_law_every" ["_law_words_here", "_law_look_here", "_law_room"] [.val,.val,.val] .sh (zd)
theorem Zd (Z:Zt K mg cv ca) (T:jf K mg "_law_every" uu ["_law_words_here", "_law_look_here", "_law_room"]) (ok_Lletters:uT P w K mg base cv):Kq P w K mg base cv:=
 qL (k:=3) (own':=[]) (fb:=QQ) T sc_Levery fun cdv f A outer s H E hr=>(ql (qK (i:=3) sc_Levery.nd rfl (ax rfl) (XM 7 rfl))
  (ql (jP aL rfl (qZ rfl (qm ok_Lletters hr (by decide) qP rfl (qc (vr 0) (qc (vr 1) qg)))) (qw (i:=4) sc_Levery.nd rfl (bB rfl))
  (ql (jM (i:=5) sc_Levery.nd rfl (ax rfl) (jB qg))
  (ql (jP aL rfl (qZ rfl (vr 3)) (qw (i:=6) sc_Levery.nd rfl (bB rfl))
  (qo (ju (yq (i:=5) rfl (ax rfl) (by decide) (kn (N:=["_law_worth", "_law_line", "_law_letter"]) (nt:=1) (cap:=[6,4]) rfl (wG (names:=(qf uu).names) rfl (by decide +kernel)) (ki (names:=(qf uu).names) (N:=zc) rfl rfl (by decide +kernel)) (kP rfl Z.z_range (vr 2)) (fun fp L s1 H1=>(qw (i:=0) (show aX (["_law_worth", "_law_line", "_law_letter"]:List Str) from by decide +kernel) rfl (ax rfl))) (fun fp L s1 H1=>jy) (fun fp L s1 H1=>(qT (jJ rfl) (vr 1) (jQ (qc (jQ (qc (vr 2) (qc (vr 0) qg))) qg)))))))))
  (kH [5] (qo (qK (i:=3) sc_Levery.nd rfl (ax rfl) (vr 5)))))))
  (qo (qp (vr 3)))))
abbrev vo:Stmt:=top 21
abbrev xB:List Str:=["thing", "least", "most"]
theorem QR:FnScope xB ["thing", "least", "most"] (qf vo):=⟨rfl,rfl,rfl,by decide +kernel,rfl,by decide +kernel,by decide +kernel⟩
noncomputable def vp:Sl->Out (Fl×Sl):=(qW (sIf (dOr (Vg (gy (d1 (gx "int") (qe 0)))) (gy (d1 (gx "bool") (qe 0)))) (jL (dC (.bl false))) jN)
  (jL (yh leD leD (qe 1) (qe 0) (qe 2))))
noncomputable abbrev js:List D->Out (D×List D):=km xB [.val,.val,.val] (vp)
abbrev jZ P w K mg base cv:=DefOk P w K mg base cv 1 "is_between" ["thing", "least", "most"] [.val,.val,.val] .sh (js)
theorem QS (Z:Zt K mg cv ca) (T:jf K mg "is_between" vo ["thing", "least", "most"]):jZ P w K mg base cv:=
 qL (k:=0) (own':=[]) (fb:=vp) T QR fun cdv f A outer s H E hr=>(ql (jA (PW.pt (zx (kl (jH rfl (zB rfl rfl Z.z_isinstance qx rfl Z.z_int qeG (vr 0)) (fun _=>rfl))) (vY (jH rfl (zB rfl rfl Z.z_isinstance qx rfl Z.z_bool qcN (vr 0)) (fun _=>rfl))))) (qo (qp JM)) jb)
  (qo (qp (Wq JQ JQ (vr 1) (vr 0) (vr 2)))))
abbrev we:Stmt:=top 22
abbrev zQ:List Str:=["thing"]
theorem Kr:FnScope zQ ["thing"] (qf we):=⟨rfl,rfl,rfl,by decide +kernel,rfl,by decide +kernel,by decide +kernel⟩
noncomputable def va:Sl->Out (Fl×Sl):=(jL (Vh (d1 (gx "str") (qe 0)) (Vh (d2 eqD (d1 jI (qe 0)) (dC (.int 1))) (yh leD leD (dC (.str "a")) (qe 0) (dC (.str "z"))))))
noncomputable abbrev wf:List D->Out (D×List D):=km zQ [.val] (va)
abbrev xC P w K mg base cv:=DefOk P w K mg base cv 1 "is_letter" ["thing"] [.val] .sh (wf)
theorem Ks (Z:Zt K mg cv ca) (T:jf K mg "is_letter" we ["thing"]):xC P w K mg base cv:=
 qL (k:=0) (own':=[]) (fb:=va) T Kr fun cdv f A outer s H E hr=>(qo (qp (Wo (zB rfl rfl Z.z_isinstance qx rfl Z.z_str qbm (vr 0)) (Wo (zu (uO rfl hr.units) (qG (jr rfl) rfl Z.z_len jn (vr 0)) qt) (YS (Wq JQ JQ vF (vr 0) vF))))))
abbrev vL:Stmt:=top 23
abbrev zR:List Str:=["thing"]
theorem UT:FnScope zR ["thing"] (qf vL):=⟨rfl,rfl,rfl,by decide +kernel,rfl,by decide +kernel,by decide +kernel⟩
noncomputable def zS:Sl->Out (Fl×Sl):=(qW (sIf (dOr (Vg (gy (d1 (gx "str") (qe 0)))) (Vg (jg (yh leD leD (dC (.int 1)) (d1 jI (qe 0)) (dC (.int 6)))))) (jL (dC (.bl false))) jN)
  (jL (d1 GT (jC [] 1 [] (kG (qe 0)) (gNm 0) ftT (qv [.vl] wf (qd (qe 0) qC))))))
noncomputable abbrev yA:List D->Out (D×List D):=km zR [.val] (zS)
abbrev gX P w K mg base cv:=DefOk P w K mg base cv 2 "is_word" ["thing"] [.val] .sh (yA)
theorem UU (Z:Zt K mg cv ca) (T:jf K mg "is_word" vL ["thing"]) (ok_is_letter:xC P w K mg base cv):gX P w K mg base cv:=
 qL (k:=1) (own':=[]) (fb:=zS) T UT fun cdv f A outer s H E hr=>(ql (jA (PW.pt (zx (kl (jH rfl (zB rfl rfl Z.z_isinstance qx rfl Z.z_str qbm (vr 0)) (fun _=>rfl))) (vY (kl (JP JQ JQ qt (qG (jr rfl) rfl Z.z_len jn (vr 0)) (yr Z.c_MOST_LETTERS rfl)))))) (qo (qp JM)) jb)
  (qo (qp (qG (Wx rfl rfl) rfl Z.z_all WM (kn (N:=["sign"]) (nt:=1) (cap:=[]) rfl (wG (names:=(qf vL).names) rfl (by decide +kernel)) (ki (names:=(qf vL).names) (N:=zR) rfl rfl (by decide +kernel)) (qZ rfl (vr 0)) (fun fp L s1 H1=>(qw (i:=0) (show aX (["sign"]:List Str) from by decide +kernel) rfl (ax rfl))) (fun fp L s1 H1=>jy) (fun fp L s1 H1=>(qm ok_is_letter hr (by decide) uR rfl (qc (vr 0) qg))))))))
abbrev kS:Stmt:=top 24
abbrev xa:List Str:=["thing"]
theorem VL:FnScope xa ["thing"] (qf kS):=⟨rfl,rfl,rfl,by decide +kernel,rfl,by decide +kernel,by decide +kernel⟩
noncomputable def xb:Sl->Out (Fl×Sl):=(qW (sIf (dOr (Vg (gy (d1 (gx "tuple") (qe 0)))) (Vg (jg (yh leD leD (dC (.int 1)) (d1 jI (qe 0)) (dC (.int 6)))))) (jL (dC (.bl false))) jN)
  (jL (Vh (d1 GT (jC [] 1 [] (kG (qe 0)) (gNm 0) ftT (qv [.vl] yA (qd (qe 0) qC)))) (d2 eqD (d1 Qz (qe 0)) (d1 jI (qe 0))))))
noncomputable abbrev xc:List D->Out (D×List D):=km xa [.val] (xb)
abbrev zT P w K mg base cv:=DefOk P w K mg base cv 3 "is_words" ["thing"] [.val] .sh (xc)
theorem VM (Z:Zt K mg cv ca) (T:jf K mg "is_words" kS ["thing"]) (ok_is_word:gX P w K mg base cv):zT P w K mg base cv:=
 qL (k:=2) (own':=[]) (fb:=xb) T VL fun cdv f A outer s H E hr=>(ql (jA (PW.pt (zx (kl (jH rfl (zB rfl rfl Z.z_isinstance qx rfl Z.z_tuple wb (vr 0)) (fun _=>rfl))) (vY (kl (JP JQ JQ qt (qG (jr rfl) rfl Z.z_len jn (vr 0)) (yr Z.c_MOST_WORDS rfl)))))) (qo (qp JM)) jb)
  (qo (qp (Wo (qG (Wx rfl rfl) rfl Z.z_all WM (kn (N:=["part"]) (nt:=1) (cap:=[]) rfl (wG (names:=(qf kS).names) rfl (by decide +kernel)) (ki (names:=(qf kS).names) (N:=xa) rfl rfl (by decide +kernel)) (qZ rfl (vr 0)) (fun fp L s1 H1=>(qw (i:=0) (show aX (["part"]:List Str) from by decide +kernel) rfl (ax rfl))) (fun fp L s1 H1=>jy) (fun fp L s1 H1=>(qm ok_is_word hr (by decide) uR rfl (qc (vr 0) qg))))) (YS (zu (uO rfl hr.units) (XB rfl rfl rfl Z.z_len jn rfl Z.z_set XU (vr 0)) (qG (jr rfl) rfl Z.z_len jn (vr 0))))))))
abbrev kL:Stmt:=top 27
abbrev yB:List Str:=["thing"]
theorem gE:FnScope yB ["thing"] (qf kL):=⟨rfl,rfl,rfl,by decide +kernel,rfl,by decide +kernel,by decide +kernel⟩
noncomputable def wg:Sl->Out (Fl×Sl):=(sIf (Vg (gy (qv [.vl] xc (qd (qe 0) qC)))) (wN "NoWords" (qd (dC (.str "words are a tuple of 1 to 6 unlike words of 1 to 6 letters from a to z")) qC)) jN)
noncomputable abbrev wj:List D->Out (D×List D):=km yB [.val] (wg)
abbrev uF P w K mg base cv:=DefOk P w K mg base cv 4 "check_words" ["thing"] [.val] .sh (wj)
theorem gF (Z:Zt K mg cv ca) (T:jf K mg "check_words" kL ["thing"]) (ok_is_words:zT P w K mg base cv):uF P w K mg base cv:=
 qL (k:=3) (own':=[]) (fb:=wg) T gE fun cdv f A outer s H E hr=>(qo (jA (kl (jH rfl (qm ok_is_words hr (by decide) qP rfl (qc (vr 0) qg)) (fun _=>rfl))) (qo (wO rfl (Ka rfl) rfl rfl (Z.mref "NoWords" (by decide +kernel)) (Z.xs.val "NoWords" (by decide +kernel)) (Z.xin "NoWords" (by decide +kernel)) (qc vF qg))) jb))
abbrev vM:Stmt:=top 25
abbrev zU:List Str:=["thing"]
theorem UV:FnScope zU ["thing"] (qf vM):=⟨rfl,rfl,rfl,by decide +kernel,rfl,by decide +kernel,by decide +kernel⟩
noncomputable def zV:Sl->Out (Fl×Sl):=(qW (sIf (dOr (Vg (gy (d1 (gx "tuple") (qe 0)))) (jg (d2 neD (d1 jI (qe 0)) (dC (.int 2))))) (jL (dC (.bl false))) jN)
  (jL (d1 GT (jC [] 1 [] (kG (qe 0)) (gNm 0) ftT (qv [.vl,.vl,.vl] js (qd (qe 0) (qd (dC (.int (-3))) (qd (dC (.int 2)) qC))))))))
noncomputable abbrev zW:List D->Out (D×List D):=km zU [.val] (zV)
abbrev gY P w K mg base cv:=DefOk P w K mg base cv 2 "is_look" ["thing"] [.val] .sh (zW)
theorem UW (Z:Zt K mg cv ca) (T:jf K mg "is_look" vM ["thing"]) (ok_is_between:jZ P w K mg base cv):gY P w K mg base cv:=
 qL (k:=1) (own':=[]) (fb:=zV) T UV fun cdv f A outer s H E hr=>(ql (jA (PW.pt (zx (kl (jH rfl (zB rfl rfl Z.z_isinstance qx rfl Z.z_tuple wb (vr 0)) (fun _=>rfl))) (vY (qX (Vf rfl hr.units) (qG (jr rfl) rfl Z.z_len jn (vr 0)) qt)))) (qo (qp JM)) jb)
  (qo (qp (qG (Wx rfl rfl) rfl Z.z_all WM (kn (N:=["place"]) (nt:=1) (cap:=[]) rfl (wG (names:=(qf vM).names) rfl (by decide +kernel)) (ki (names:=(qf vM).names) (N:=zU) rfl rfl (by decide +kernel)) (qZ rfl (vr 0)) (fun fp L s1 H1=>(qw (i:=0) (show aX (["place"]:List Str) from by decide +kernel) rfl (ax rfl))) (fun fp L s1 H1=>jy) (fun fp L s1 H1=>(qm ok_is_between hr (by decide) uR rfl (qc (vr 0) (qc (yr Z.c_LEAST_PLACE rfl) (qc (yr Z.c_MOST_PLACE rfl) qg))))))))))
abbrev vt:Stmt:=top 28
abbrev xD:List Str:=["thing"]
theorem QT:FnScope xD ["thing"] (qf vt):=⟨rfl,rfl,rfl,by decide +kernel,rfl,by decide +kernel,by decide +kernel⟩
noncomputable def wS:Sl->Out (Fl×Sl):=(sIf (Vg (gy (qv [.vl] zW (qd (qe 0) qC)))) (wN "NoLook" (qd (dC (.str "a look is a tuple of two places from -3 to 2")) qC)) jN)
noncomputable abbrev wT:List D->Out (D×List D):=km xD [.val] (wS)
abbrev yC P w K mg base cv:=DefOk P w K mg base cv 3 "check_look" ["thing"] [.val] .sh (wT)
theorem QU (Z:Zt K mg cv ca) (T:jf K mg "check_look" vt ["thing"]) (ok_is_look:gY P w K mg base cv):yC P w K mg base cv:=
 qL (k:=2) (own':=[]) (fb:=wS) T QT fun cdv f A outer s H E hr=>(qo (jA (kl (jH rfl (qm ok_is_look hr (by decide) qP rfl (qc (vr 0) qg)) (fun _=>rfl))) (qo (wO rfl (Ka rfl) rfl rfl (Z.mref "NoLook" (by decide +kernel)) (Z.xs.val "NoLook" (by decide +kernel)) (Z.xin "NoLook" (by decide +kernel)) (qc vF qg))) jb))
abbrev wk:Stmt:=top 32
abbrev zX:List Str:=["word", "place", "at"]
theorem sc_letter_at:FnScope zX ["word", "place"] (qf wk):=⟨rfl,rfl,rfl,by decide +kernel,rfl,by decide +kernel,by decide +kernel⟩
noncomputable def wl:Sl->Out (Fl×Sl):=(qW (jE 2 (dIf (jg (d2 geD (qe 1) (dC (.int 0)))) (qe 1) (d2 kt (d1 jI (qe 0)) (qe 1))))
  (jL (d2 ixD (qe 0) (d2 qbh (dC (.int 0)) (d2 qfz (qe 2) (d2 Qi (d1 jI (qe 0)) (dC (.int 1))))))))
noncomputable abbrev vb:List D->Out (D×List D):=km zX [.val,.val] (wl)
abbrev xE P w K mg base cv:=DefOk P w K mg base cv 1 "letter_at" ["word", "place"] [.val,.val] .sh (vb)
theorem Kt (Z:Zt K mg cv ca) (T:jf K mg "letter_at" wk ["word", "place"]):xE P w K mg base cv:=
 qL (k:=0) (own':=[]) (fb:=wl) T sc_letter_at fun cdv f A outer s H E hr=>(ql (qK (i:=2) sc_letter_at.nd rfl (ax rfl) (Uv (qX qea (vr 1) qt) (vr 1) (qT (jJ rfl) (qG (jr rfl) rfl Z.z_len jn (vr 0)) (vr 1))))
  (qo (qp (jp rfl hr.units (vr 0) (zA (qbi rfl) rfl Z.z_max qbl qt (zA (qel rfl) rfl Z.z_min qeH (vr 2) (qT zv (qG (jr rfl) rfl Z.z_len jn (vr 0)) qt))) (fun _ _=>rfl)))))
abbrev xf:Stmt:=top 33
abbrev VN:List Str:=["words", "look"]
theorem qaJ:FnScope VN ["words", "look"] (qf xf):=⟨rfl,rfl,rfl,by decide +kernel,rfl,by decide +kernel,by decide +kernel⟩
noncomputable def VO:Sl->Out (Fl×Sl):=(qW (kD (qv [.vl] wj (qd (qe 0) qC)))
  (qW (kD (qv [.vl] wT (qd (qe 1) qC)))
  (jL (jC [] 1 [1] (kG (qe 0)) (gNm 0) ftT (vj (qd (qv [.vl,.vl] vb (qd (qe 0) (qd (d2 ixD (qe 1) (dC (.int 0))) qC))) (qd (qv [.vl,.vl] vb (qd (qe 0) (qd (d2 ixD (qe 1) (dC (.int 1))) qC))) qC)))))))
noncomputable abbrev uU:List D->Out (D×List D):=km VN [.val,.val] (VO)
abbrev ze P w K mg base cv:=DefOk P w K mg base cv 5 "pairs" ["words", "look"] [.val,.val] .sh (uU)
theorem qaK (Z:Zt K mg cv ca) (T:jf K mg "pairs" xf ["words", "look"]) (ok_check_words:uF P w K mg base cv) (ok_check_look:yC P w K mg base cv) (ok_letter_at:xE P w K mg base cv):ze P w K mg base cv:=
 qL (k:=4) (own':=[]) (fb:=VO) T qaJ fun cdv f A outer s H E hr=>(ql (ju (qm ok_check_words hr (by decide) qP rfl (qc (vr 0) qg)))
  (ql (ju (qm ok_check_look hr (by decide) qP rfl (qc (vr 1) qg)))
  (qo (qp (kn (N:=["word", "look"]) (nt:=1) (cap:=[1]) rfl (wG (names:=(qf xf).names) rfl (by decide +kernel)) (ki (names:=(qf xf).names) (N:=VN) rfl rfl (by decide +kernel)) (qZ rfl (vr 0)) (fun fp L s1 H1=>(qw (i:=0) (show aX (["word", "look"]:List Str) from by decide +kernel) rfl (ax rfl))) (fun fp L s1 H1=>jy) (fun fp L s1 H1=>(jQ (qc (qm ok_letter_at hr (by decide) uR rfl (qc (vr 0) (qc (jp rfl hr.units (vr 1) qt (fun _ _=>rfl)) qg))) (qc (qm ok_letter_at hr (by decide) uR rfl (qc (vr 0) (qc (jp rfl hr.units (vr 1) qt (fun _ _=>rfl)) qg))) qg)))))))))
abbrev jt:Stmt:=top 34
abbrev vu:List Str:=["seen"]
theorem QV:FnScope vu ["seen"] (qf jt):=⟨rfl,rfl,rfl,by decide +kernel,rfl,by decide +kernel,by decide +kernel⟩
noncomputable def wU:Sl->Out (Fl×Sl):=(jL (d1 uq (d2 kt (jC [] 1 [] (kG (qe 0)) (gNm 0) ftT (d2 ixD (qe 0) (dC (.int 0)))) (jC [] 1 [] (kG (qe 0)) (gNm 0) ftT (d2 ixD (qe 0) (dC (.int 1)))))))
noncomputable abbrev vw:List D->Out (D×List D):=km vu [.val] (wU)
abbrev yD P w K mg base cv:=DefOk P w K mg base cv 1 "letters_of" ["seen"] [.val] .sh (vw)
theorem QW (Z:Zt K mg cv ca) (T:jf K mg "letters_of" jt ["seen"]):yD P w K mg base cv:=
 qL (k:=0) (own':=[]) (fb:=wU) T QV fun cdv f A outer s H E hr=>(qo (qp (gS rfl rfl rfl Z.z_sorted yz rfl Z.z_set XU (qT (jJ rfl) (kn (N:=["pair"]) (nt:=1) (cap:=[]) rfl (wG (names:=(qf jt).names) rfl (by decide +kernel)) (ki (names:=(qf jt).names) (N:=vu) rfl rfl (by decide +kernel)) (qZ rfl (vr 0)) (fun fp L s1 H1=>(qw (i:=0) (show aX (["pair"]:List Str) from by decide +kernel) rfl (ax rfl))) (fun fp L s1 H1=>jy) (fun fp L s1 H1=>(jp rfl hr.units (vr 0) qt (fun _ _=>rfl)))) (kn (N:=["pair"]) (nt:=1) (cap:=[]) rfl (wG (names:=(qf jt).names) rfl (by decide +kernel)) (ki (names:=(qf jt).names) (N:=vu) rfl rfl (by decide +kernel)) (qZ rfl (vr 0)) (fun fp L s1 H1=>(qw (i:=0) (show aX (["pair"]:List Str) from by decide +kernel) rfl (ax rfl))) (fun fp L s1 H1=>jy) (fun fp L s1 H1=>(jp rfl hr.units (vr 0) qt (fun _ _=>rfl))))))))
abbrev ku:Stmt:=top 37
abbrev uG:List Str:=["pair", "letter"]
theorem zY:FnScope uG ["pair", "letter"] (qf ku):=⟨rfl,rfl,rfl,by decide +kernel,rfl,by decide +kernel,by decide +kernel⟩
noncomputable def vE:Sl->Out (Fl×Sl):=(jL (dIf (jg (d2 eqD (qe 1) (d2 ixD (qe 0) (dC (.int 0))))) (d2 ixD (qe 0) (dC (.int 1))) (d2 ixD (qe 0) (dC (.int 0)))))
noncomputable abbrev kw:List D->Out (D×List D):=km uG [.val,.val] (vE)
abbrev wV P w K mg base cv:=DefOk P w K mg base cv 1 "other_letter" ["pair", "letter"] [.val,.val] .sh (kw)
theorem zZ (Z:Zt K mg cv ca) (T:jf K mg "other_letter" ku ["pair", "letter"]):wV P w K mg base cv:=
 qL (k:=0) (own':=[]) (fb:=vE) T zY fun cdv f A outer s H E hr=>(qo (qp (Uv (qX (uO rfl hr.units) (vr 1) (jp rfl hr.units (vr 0) qt (fun _ _=>rfl))) (jp rfl hr.units (vr 0) qt (fun _ _=>rfl)) (jp rfl hr.units (vr 0) qt (fun _ _=>rfl)))))
abbrev zf:Stmt:=top 41
abbrev QX:List Str:=["seen", "root", "ways", "waiting", "letter", "at", "pair", "reached"]
theorem sc_spread:FnScope QX ["seen", "root", "ways"] (qf zf):=⟨rfl,rfl,rfl,by decide +kernel,rfl,by decide +kernel,by decide +kernel⟩
noncomputable def QY:Sl->Out (Fl×Sl):=(qW (xN 2 (vj (qd (qe 1) (qd (wL qC) qC))) (qe 1))
  (qW (jE 3 (wL (qd (qe 1) qC)))
  (kh (jg (d2 gtD (d1 jI (qe 3)) (dC (.int 0))))
  (qW (jE 4 (XO 3))
  (gA (UM (qe 0)) (kg 2 (qH (gNm 5) (qH (gNm 6) kf)))
  (qW (jE 7 (qv [.vl,.vl] kw (qd (qe 6) (qd (qe 4) qC))))
  (sIf (qb8 (jg (d2 inA (qe 4) (qe 6))) (jg (d2 Qv (qe 7) (qe 2)))) (qW (xN 2 (vj (qd (qe 1) (qd (d2 kt (d2 ixD (d2O 2 ixD (qe 4)) (dC (.int 1))) (wL (qd (qe 5) qC))) qC))) (qe 7))
  (kD (zz 3 Qq (qe 7)))) jN)))) 20)))
noncomputable abbrev zg:List D->Out (D×List D):=km QX [.val,.val,.io] (QY)
abbrev Ku P w K mg base cv:=DefOk P w K mg base cv 2 "spread" ["seen", "root", "ways"] [.val,.val,.io] .sh (zg)
theorem Ze (Z:Zt K mg cv ca) (T:jf K mg "spread" zf ["seen", "root", "ways"]) (ok_other_letter:wV P w K mg base cv):Ku P w K mg base cv:=
 qL (k:=1) (own':=[3,2]) (fb:=QY) T sc_spread fun cdv f A outer s H E hr=>(ql (xY (n:=2) hr.units rfl (ax rfl) (by decide) (jQ (qc (vr 1) (qc (jB qg) qg))) (vr 1))
  (ql (jM (i:=3) sc_spread.nd rfl (ax rfl) (jB (qc (vr 1) qg)))
  (qo (Xb 20 aL (qX qge (qG (jr rfl) rfl Z.z_len jn (kC (i:=3) rfl (ax rfl) (by decide))) qt)
  (ql (qK (i:=4) sc_spread.nd rfl (ax rfl) (qcK (i:=3) rfl (ax rfl) (by decide)))
  (qo (jP aL rfl (WH rfl rfl Z.z_enumerate (vr 0)) (wa rfl rfl (qO (qw (i:=5) sc_spread.nd rfl (ax rfl)) (qO (qw (i:=6) sc_spread.nd rfl (ax rfl)) kI)))
  (ql (qK (i:=7) sc_spread.nd rfl (ax rfl) (qm ok_other_letter hr (by decide) qP rfl (qc (vr 6) (qc (vr 4) qg))))
  (qo (jA (PW.pt (YR (qX (qer rfl hr.units) (vr 4) (vr 6)) (vY (qX (yu rfl hr.units) (vr 7) (kC (i:=2) rfl (ax rfl) (by decide)))))) (ql (xY (n:=2) hr.units rfl (ax rfl) (by decide) (jQ (qc (vr 1) (qc (qT (jJ rfl) (jp rfl hr.units (qeD (i:=2) rfl hr.units rfl (ax rfl) (by decide) (vr 4) (fun _ _=>rfl)) qt (fun _ _=>rfl)) (jB (qc (vr 5) qg))) qg))) (vr 7))
  (qo (ju (vH (i:=3) rfl rfl (ax rfl) (by decide) (vr 7))))) jb))))))))))
abbrev yE:Stmt:=top 42
abbrev gb:List Str:=["seen", "ways", "letter"]
theorem sc_ways_of:FnScope gb ["seen"] (qf yE):=⟨rfl,rfl,rfl,by decide +kernel,rfl,by decide +kernel,by decide +kernel⟩
noncomputable def gc:Sl->Out (Fl×Sl):=(qW (jE 1 (dC (.dct [])))
  (qW (gA (kG (qv [.vl] vw (qd (qe 0) qC))) (gNm 2)
  (sIf (jg (d2 Qv (qe 2) (qe 1))) (kD (qv [.vl,.vl,.sl 1] zg (qd (qe 0) (qd (qe 2) (jO qC))))) jN))
  (jL (qe 1))))
noncomputable abbrev vN:List D->Out (D×List D):=km gb [.val] (gc)
abbrev uw P w K mg base cv:=DefOk P w K mg base cv 3 "ways_of" ["seen"] [.val] .sh (vN)
theorem UX (Z:Zt K mg cv ca) (T:jf K mg "ways_of" yE ["seen"]) (ok_letters_of:yD P w K mg base cv) (ok_spread:Ku P w K mg base cv):uw P w K mg base cv:=
 qL (k:=2) (own':=[]) (fb:=gc) T sc_ways_of fun cdv f A outer s H E hr=>(ql (jM (i:=1) sc_ways_of.nd rfl (ax rfl) Qj)
  (ql (jP aL rfl (qZ rfl (qm ok_letters_of hr (by decide) qP rfl (qc (vr 0) qg))) (qw (i:=2) sc_ways_of.nd rfl (ax rfl))
  (qo (jA (qX (yu rfl hr.units) (vr 2) (kC (i:=1) rfl (ax rfl) (by decide))) (qo (ju (qm ok_spread hr (by decide) qP rfl (qc (vr 0) (qc (vr 2) (qY (i:=1) rfl (ax rfl) (by decide) qg)))))) jb)))
  (kH [1] (qo (qp (vr 1))))))
abbrev vx:Stmt:=top 43
abbrev wW:List Str:=["seen", "ways", "found", "at", "pair", "back"]
theorem sc_circles_of:FnScope wW ["seen", "ways"] (qf vx):=⟨rfl,rfl,rfl,by decide +kernel,rfl,by decide +kernel,by decide +kernel⟩
noncomputable def wX:Sl->Out (Fl×Sl):=(qW (jE 2 (wL qC))
  (qW (gA (UM (qe 0)) (kg 2 (qH (gNm 3) (qH (gNm 4) kf)))
  (qW (jE 5 (d1 yy (d2 ixD (d2 ixD (qe 1) (d2 ixD (qe 4) (dC (.int 1)))) (dC (.int 1)))))
  (kD (zz 2 Qq (vj (qd (d2 ixD (d2 ixD (qe 1) (d2 ixD (qe 4) (dC (.int 0)))) (dC (.int 0))) (qd (d2 kt (d2 kt (d2 ixD (d2 ixD (qe 1) (d2 ixD (qe 4) (dC (.int 0)))) (dC (.int 1))) (wL (qd (qe 3) qC))) (qe 5)) qC)))))))
  (jL (qe 2))))
noncomputable abbrev vy:List D->Out (D×List D):=km wW [.val,.val] (wX)
abbrev wm P w K mg base cv:=DefOk P w K mg base cv 1 "circles_of" ["seen", "ways"] [.val,.val] .sh (vy)
theorem QZ (Z:Zt K mg cv ca) (T:jf K mg "circles_of" vx ["seen", "ways"]):wm P w K mg base cv:=
 qL (k:=0) (own':=[]) (fb:=wX) T sc_circles_of fun cdv f A outer s H E hr=>(ql (jM (i:=2) sc_circles_of.nd rfl (ax rfl) (jB qg))
  (ql (jP aL rfl (WH rfl rfl Z.z_enumerate (vr 0)) (wa rfl rfl (qO (qw (i:=3) sc_circles_of.nd rfl (ax rfl)) (qO (qw (i:=4) sc_circles_of.nd rfl (ax rfl)) kI)))
  (ql (qK (i:=5) sc_circles_of.nd rfl (ax rfl) (UO rfl rfl rfl Z.z_list QE rfl Z.z_reversed Vx (jp rfl hr.units (jp rfl hr.units (vr 1) (jp rfl hr.units (vr 4) qt (fun _ _=>rfl)) (fun _ _=>rfl)) qt (fun _ _=>rfl))))
  (qo (ju (vH (i:=2) rfl rfl (ax rfl) (by decide) (jQ (qc (jp rfl hr.units (jp rfl hr.units (vr 1) (jp rfl hr.units (vr 4) qt (fun _ _=>rfl)) (fun _ _=>rfl)) qt (fun _ _=>rfl)) (qc (qT (jJ rfl) (qT (jJ rfl) (jp rfl hr.units (jp rfl hr.units (vr 1) (jp rfl hr.units (vr 4) qt (fun _ _=>rfl)) (fun _ _=>rfl)) qt (fun _ _=>rfl)) (jB (qc (vr 3) qg))) (vr 5)) qg))))))))
  (kH [2] (qo (qp (vr 2))))))
abbrev zh:Stmt:=top 39
abbrev WS:List Str:=["walk"]
theorem Zf:FnScope WS ["walk"] (qf zh):=⟨rfl,rfl,rfl,by decide +kernel,rfl,by decide +kernel,by decide +kernel⟩
noncomputable def zi:Sl->Out (Fl×Sl):=(jL (d2 eqD (d2 vW (d1 jI (qe 0)) (dC (.int 2))) (dC (.int 1))))
noncomputable abbrev wn:List D->Out (D×List D):=km WS [.val] (zi)
abbrev yF P w K mg base cv:=DefOk P w K mg base cv 1 "is_odd" ["walk"] [.val] .sh (wn)
theorem Zg (Z:Zt K mg cv ca) (T:jf K mg "is_odd" zh ["walk"]):yF P w K mg base cv:=
 qL (k:=0) (own':=[]) (fb:=zi) T Zf fun cdv f A outer s H E hr=>(qo (qp (zu (uO rfl hr.units) (qT kx (qG (jr rfl) rfl Z.z_len jn (vr 0)) qt) qt)))
abbrev wo:Stmt:=top 44
abbrev uV:List Str:=["circles", "first", "root", "walk"]
theorem sc_first_odd:FnScope uV ["circles"] (qf wo):=⟨rfl,rfl,rfl,by decide +kernel,rfl,by decide +kernel,by decide +kernel⟩
noncomputable def uW:Sl->Out (Fl×Sl):=(qW (jE 1 (dC (.dct [])))
  (qW (gA (kG (qe 0)) (kg 2 (qH (gNm 2) (qH (gNm 3) kf)))
  (sIf (qb8 (gy (qv [.vl] wn (qd (qe 3) qC))) (jg (d2 Qv (qe 2) (qe 1)))) (xN 1 (qe 3) (qe 2)) jN))
  (jL (qe 1))))
noncomputable abbrev wq:List D->Out (D×List D):=km uV [.val] (uW)
abbrev wY P w K mg base cv:=DefOk P w K mg base cv 2 "first_odd" ["circles"] [.val] .sh (wq)
theorem Kv (Z:Zt K mg cv ca) (T:jf K mg "first_odd" wo ["circles"]) (ok_is_odd:yF P w K mg base cv):wY P w K mg base cv:=
 qL (k:=1) (own':=[]) (fb:=uW) T sc_first_odd fun cdv f A outer s H E hr=>(ql (jM (i:=1) sc_first_odd.nd rfl (ax rfl) Qj)
  (ql (jP aL rfl (qZ rfl (vr 0)) (wa rfl rfl (qO (qw (i:=2) sc_first_odd.nd rfl (ax rfl)) (qO (qw (i:=3) sc_first_odd.nd rfl (ax rfl)) kI)))
  (qo (jA (PW.pt (YR (jH rfl (qm ok_is_odd hr (by decide) qP rfl (qc (vr 3) qg)) (fun _=>rfl)) (vY (qX (yu rfl hr.units) (vr 2) (kC (i:=1) rfl (ax rfl) (by decide)))))) (qo (xY (n:=1) hr.units rfl (ax rfl) (by decide) (vr 3) (vr 2))) jb)))
  (kH [1] (qo (qp (vr 1))))))
abbrev ux:Stmt:=top 38
abbrev xg:List Str:=["walk", "numbers", "start", "total", "at"]
theorem sc_comes_to:FnScope xg ["walk", "numbers", "start"] (qf ux):=⟨rfl,rfl,rfl,by decide +kernel,rfl,by decide +kernel,by decide +kernel⟩
noncomputable def xh:Sl->Out (Fl×Sl):=(qW (jE 3 (qe 2))
  (qW (gA (kG (qe 0)) (gNm 4)
  (jE 3 (d2 Qi (d2 ixD (qe 1) (qe 4)) (qe 3))))
  (jL (qe 3))))
noncomputable abbrev kT:List D->Out (D×List D):=km xg [.val,.val,.val] (xh)
abbrev wt P w K mg base cv:=DefOk P w K mg base cv 1 "comes_to" ["walk", "numbers", "start"] [.val,.val,.val] .sh (kT)
theorem VP (Z:Zt K mg cv ca) (T:jf K mg "comes_to" ux ["walk", "numbers", "start"]):wt P w K mg base cv:=
 qL (k:=0) (own':=[]) (fb:=xh) T sc_comes_to fun cdv f A outer s H E hr=>(ql (qK (i:=3) sc_comes_to.nd rfl (ax rfl) (vr 2))
  (ql (jP aL rfl (qZ rfl (vr 0)) (qw (i:=4) sc_comes_to.nd rfl (ax rfl))
  (qo (qK (i:=3) sc_comes_to.nd rfl (ax rfl) (qT zv (jp rfl hr.units (vr 1) (vr 4) (fun _ _=>rfl)) (vr 3)))))
  (qo (qp (vr 3)))))
abbrev WT:Stmt:=top 47
abbrev qbo:List Str:=["total", "room", "rest"]
theorem sc_half:FnScope qbo ["total", "room"] (qf WT):=⟨rfl,rfl,rfl,by decide +kernel,rfl,by decide +kernel,by decide +kernel⟩
noncomputable def Zh:Sl->Out (Fl×Sl):=(qW (jE 2 (d2 vW (qe 0) (qe 1)))
  (jL (dIf (jg (d2 eqD (d2 vW (qe 2) (dC (.int 2))) (dC (.int 0)))) (d2 yP (qe 2) (dC (.int 2))) (d2 yP (d2 kt (qe 2) (qe 1)) (dC (.int 2))))))
noncomputable abbrev Zi:List D->Out (D×List D):=km qbo [.val,.val] (Zh)
abbrev Zj P w K mg base cv:=DefOk P w K mg base cv 1 "half" ["total", "room"] [.val,.val] .sh (Zi)
theorem qcQ (Z:Zt K mg cv ca) (T:jf K mg "half" WT ["total", "room"]):Zj P w K mg base cv:=
 qL (k:=0) (own':=[]) (fb:=Zh) T sc_half fun cdv f A outer s H E hr=>(ql (qK (i:=2) sc_half.nd rfl (ax rfl) (qT kx (vr 0) (vr 1)))
  (qo (qp (Uv (qX (uO rfl hr.units) (qT kx (vr 2) qt) qt) (qT zw (vr 2) qt) (qT zw (qT (jJ rfl) (vr 2) (vr 1)) qt)))))
abbrev kM:Stmt:=top 48
abbrev yG:List Str:=["walk", "room", "numbers", "worth"]
theorem sc_root_worths:FnScope yG ["walk", "room", "numbers"] (qf kM):=⟨rfl,rfl,rfl,by decide +kernel,rfl,by decide +kernel,by decide +kernel⟩
noncomputable def ka:Sl->Out (Fl×Sl):=(qW (sIf (jg (d2 eqD (d1 jI (qe 0)) (dC (.int 0)))) (jL (d1 yx (qe 1))) jN)
  (qW (jE 3 (qv [.vl,.vl] Zi (qd (qv [.vl,.vl,.vl] kT (qd (qe 0) (qd (qe 2) (qd (dC (.int 0)) qC)))) (qd (qe 1) qC))))
  (jL (dIf (jg (d2 eqD (d2 vW (qe 1) (dC (.int 2))) (dC (.int 0)))) (wL (qd (qe 3) (qd (d2 kt (qe 3) (d2 yP (qe 1) (dC (.int 2)))) qC))) (wL (qd (qe 3) qC))))))
noncomputable abbrev kN:List D->Out (D×List D):=km yG [.val,.val,.val] (ka)
abbrev uH P w K mg base cv:=DefOk P w K mg base cv 2 "root_worths" ["walk", "room", "numbers"] [.val,.val,.val] .sh (kN)
theorem gG (Z:Zt K mg cv ca) (T:jf K mg "root_worths" kM ["walk", "room", "numbers"]) (ok_comes_to:wt P w K mg base cv) (ok_half:Zj P w K mg base cv):uH P w K mg base cv:=
 qL (k:=1) (own':=[]) (fb:=ka) T sc_root_worths fun cdv f A outer s H E hr=>(ql (jA (qX (uO rfl hr.units) (qG (jr rfl) rfl Z.z_len jn (vr 0)) qt) (qo (qp (UL rfl rfl Z.z_list QE rfl Z.z_range qaw (vr 1)))) jb)
  (ql (qK (i:=3) sc_root_worths.nd rfl (ax rfl) (qm ok_half hr (by decide) qP rfl (qc (qm ok_comes_to hr (by decide) qP rfl (qc (vr 0) (qc (vr 2) (qc qt qg)))) (qc (vr 1) qg))))
  (qo (qp (Uv (qX (uO rfl hr.units) (qT kx (vr 1) qt) qt) (jB (qc (vr 3) (qc (qT (jJ rfl) (vr 3) (qT zw (vr 1) qt)) qg))) (jB (qc (vr 3) qg)))))))
abbrev jS:Stmt:=top 49
abbrev vP:List Str:=["seen", "room", "numbers", "ways", "first", "roots"]
theorem sc_roots_of:FnScope vP ["seen", "room", "numbers"] (qf jS):=⟨rfl,rfl,rfl,by decide +kernel,rfl,by decide +kernel,by decide +kernel⟩
noncomputable def xi:Sl->Out (Fl×Sl):=(qW (jE 3 (qv [.vl] vN (qd (qe 0) qC)))
  (qW (jE 4 (qv [.vl] wq (qd (qv [.vl,.vl] vy (qd (qe 0) (qd (qe 3) qC))) qC)))
  (qW (jE 5 (jC [] 1 [3] (kG (d1 jY (qe 3))) (gNm 0) (jg (d2 eqD (d2 ixD (d2 ixD (qe 1) (qe 0)) (dC (.int 0))) (qe 0))) (qe 0)))
  (jL (jC [] 1 [1,2,4] (kG (qe 5)) (gNm 0) ftT (vj (qd (qe 0) (qd (qv [.vl,.vl,.vl] kN (qd (qap (qe 3) (qe 0) (wL qC)) (qd (qe 1) (qd (qe 2) qC)))) qC))))))))
noncomputable abbrev vQ:List D->Out (D×List D):=km vP [.val,.val,.val] (xi)
abbrev uX P w K mg base cv:=DefOk P w K mg base cv 4 "roots_of" ["seen", "room", "numbers"] [.val,.val,.val] .sh (vQ)
theorem VQ (Z:Zt K mg cv ca) (T:jf K mg "roots_of" jS ["seen", "room", "numbers"]) (ok_ways_of:uw P w K mg base cv) (ok_circles_of:wm P w K mg base cv) (ok_first_odd:wY P w K mg base cv) (ok_root_worths:uH P w K mg base cv):uX P w K mg base cv:=
 qL (k:=3) (own':=[]) (fb:=xi) T sc_roots_of fun cdv f A outer s H E hr=>(ql (qK (i:=3) sc_roots_of.nd rfl (bB rfl) (qm ok_ways_of hr (by decide) qP rfl (qc (vr 0) qg)))
  (ql (qK (i:=4) sc_roots_of.nd rfl (bB rfl) (qm ok_first_odd hr (by decide) qP rfl (qc (qm ok_circles_of hr (by decide) qP rfl (qc (vr 0) (qc (vr 3) qg))) qg)))
  (ql (yn (N:=["letter", "ways"]) (nt:=1) (cap:=[3]) sc_roots_of.nd (i:=5) rfl (ax rfl) rfl (wG (names:=(qf jS).names) rfl (by decide +kernel)) (ki (names:=(qf jS).names) (N:=vP) rfl rfl (by decide +kernel)) (qZ rfl (qG (gT rfl) rfl Z.z_sorted yz (vr 3))) (fun fp L s1 H1=>(qw (i:=0) (show aX (["letter", "ways"]:List Str) from by decide +kernel) rfl (ax rfl))) (fun fp L s1 H1=>(Qp (qX (uO rfl hr.units) (jp rfl hr.units (jp rfl hr.units (vr 1) (vr 0) (fun _ _=>rfl)) qt (fun _ _=>rfl)) (vr 0)))) (fun fp L s1 H1=>(vr 0)))
  (kH [5] (qo (qp (kn (N:=["root", "room", "numbers", "first"]) (nt:=1) (cap:=[1,2,4]) rfl (wG (names:=(qf jS).names) rfl (by decide +kernel)) (ki (names:=(qf jS).names) (N:=vP) rfl rfl (by decide +kernel)) (qZ rfl (vr 5)) (fun fp L s1 H1=>(qw (i:=0) (show aX (["root", "room", "numbers", "first"]:List Str) from by decide +kernel) rfl (ax rfl))) (fun fp L s1 H1=>jy) (fun fp L s1 H1=>(jQ (qc (vr 0) (qc (qm ok_root_worths hr (by decide) uR rfl (qc (qcL hr.units (vr 3) (vr 0) (jB qg)) (qc (vr 1) (qc (vr 2) qg)))) qg)))))))))))
abbrev kO:Stmt:=top 50
abbrev wu:List Str:=["seen", "room", "numbers", "starts", "ways", "found", "letter", "start"]
theorem sc_worths_from:FnScope wu ["seen", "room", "numbers", "starts"] (qf kO):=⟨rfl,rfl,rfl,by decide +kernel,rfl,by decide +kernel,by decide +kernel⟩
noncomputable def wv:Sl->Out (Fl×Sl):=(qW (jE 4 (qv [.vl] vN (qd (qe 0) qC)))
  (qW (jE 5 (wL qC))
  (qW (gA (kG (d1 jY (qe 4))) (gNm 6)
  (qW (jE 7 (d2 ixD (qe 3) (d2 ixD (d2 ixD (qe 4) (qe 6)) (dC (.int 0)))))
  (kD (zz 5 Qq (vj (qd (qe 6) (qd (d2 vW (qv [.vl,.vl,.vl] kT (qd (d2 ixD (d2 ixD (qe 4) (qe 6)) (dC (.int 1))) (qd (qe 2) (qd (qe 7) qC)))) (qe 1)) qC)))))))
  (jL (d1 yt (qe 5))))))
noncomputable abbrev ww:List D->Out (D×List D):=km wu [.val,.val,.val,.val] (wv)
abbrev uI P w K mg base cv:=DefOk P w K mg base cv 4 "worths_from" ["seen", "room", "numbers", "starts"] [.val,.val,.val,.val] .sh (ww)
theorem gH (Z:Zt K mg cv ca) (T:jf K mg "worths_from" kO ["seen", "room", "numbers", "starts"]) (ok_comes_to:wt P w K mg base cv) (ok_ways_of:uw P w K mg base cv):uI P w K mg base cv:=
 qL (k:=3) (own':=[]) (fb:=wv) T sc_worths_from fun cdv f A outer s H E hr=>(ql (qK (i:=4) sc_worths_from.nd rfl (ax rfl) (qm ok_ways_of hr (by decide) qP rfl (qc (vr 0) qg)))
  (ql (jM (i:=5) sc_worths_from.nd rfl (ax rfl) (jB qg))
  (ql (jP aL rfl (qZ rfl (qG (gT rfl) rfl Z.z_sorted yz (vr 4))) (qw (i:=6) sc_worths_from.nd rfl (ax rfl))
  (ql (qK (i:=7) sc_worths_from.nd rfl (ax rfl) (jp rfl hr.units (vr 3) (jp rfl hr.units (jp rfl hr.units (vr 4) (vr 6) (fun _ _=>rfl)) qt (fun _ _=>rfl)) (fun _ _=>rfl)))
  (qo (ju (vH (i:=5) rfl rfl (ax rfl) (by decide) (jQ (qc (vr 6) (qc (qT kx (qm ok_comes_to hr (by decide) qP rfl (qc (jp rfl hr.units (jp rfl hr.units (vr 4) (vr 6) (fun _ _=>rfl)) qt (fun _ _=>rfl)) (qc (vr 2) (qc (vr 7) qg)))) (vr 1)) qg))))))))
  (qo (qp (ky (xW rfl) rfl Z.z_tuple wb (kC (i:=5) rfl (ax rfl) (by decide))))))))
abbrev vz:Stmt:=top 29
abbrev xF:List Str:=["thing"]
theorem Ja:FnScope xF ["thing"] (qf vz):=⟨rfl,rfl,rfl,by decide +kernel,rfl,by decide +kernel,by decide +kernel⟩
noncomputable def wZ:Sl->Out (Fl×Sl):=(sIf (Vg (gy (qv [.vl,.vl,.vl] js (qd (qe 0) (qd (dC (.int 1)) (qd (dC (.int 99)) qC)))))) (wN "NoRoom" (qd (dC (.str "a room is a whole number from 1 to 99")) qC)) jN)
noncomputable abbrev ua:List D->Out (D×List D):=km xF [.val] (wZ)
abbrev yH P w K mg base cv:=DefOk P w K mg base cv 2 "check_room" ["thing"] [.val] .sh (ua)
theorem Jb (Z:Zt K mg cv ca) (T:jf K mg "check_room" vz ["thing"]) (ok_is_between:jZ P w K mg base cv):yH P w K mg base cv:=
 qL (k:=1) (own':=[]) (fb:=wZ) T Ja fun cdv f A outer s H E hr=>(qo (jA (kl (jH rfl (qm ok_is_between hr (by decide) qP rfl (qc (vr 0) (qc qt (qc (yr Z.c_MOST_ROOM rfl) qg)))) (fun _=>rfl))) (qo (wO rfl (Ka rfl) rfl rfl (Z.mref "NoRoom" (by decide +kernel)) (Z.xs.val "NoRoom" (by decide +kernel)) (Z.xin "NoRoom" (by decide +kernel)) (qc vF qg))) jb))
abbrev jT:Stmt:=top 26
abbrev ub:List Str:=["thing", "count", "room"]
theorem Jc:FnScope ub ["thing", "count", "room"] (qf jT):=⟨rfl,rfl,rfl,by decide +kernel,rfl,by decide +kernel,by decide +kernel⟩
noncomputable def uc:Sl->Out (Fl×Sl):=(qW (sIf (dOr (Vg (gy (d1 (gx "tuple") (qe 0)))) (jg (d2 neD (d1 jI (qe 0)) (qe 1)))) (jL (dC (.bl false))) jN)
  (jL (d1 GT (jC [] 1 [2] (kG (qe 0)) (gNm 0) ftT (qv [.vl,.vl,.vl] js (qd (qe 0) (qd (dC (.int 0)) (qd (d2 Qi (qe 1) (dC (.int 1))) qC))))))))
noncomputable abbrev ud:List D->Out (D×List D):=km ub [.val,.val,.val] (uc)
abbrev yI P w K mg base cv:=DefOk P w K mg base cv 2 "is_numbers" ["thing", "count", "room"] [.val,.val,.val] .sh (ud)
theorem Jd (Z:Zt K mg cv ca) (T:jf K mg "is_numbers" jT ["thing", "count", "room"]) (ok_is_between:jZ P w K mg base cv):yI P w K mg base cv:=
 qL (k:=1) (own':=[]) (fb:=uc) T Jc fun cdv f A outer s H E hr=>(ql (jA (PW.pt (zx (kl (jH rfl (zB rfl rfl Z.z_isinstance qx rfl Z.z_tuple wb (vr 0)) (fun _=>rfl))) (vY (qX (Vf rfl hr.units) (qG (jr rfl) rfl Z.z_len jn (vr 0)) (vr 1))))) (qo (qp JM)) jb)
  (qo (qp (qG (Wx rfl rfl) rfl Z.z_all WM (kn (N:=["number", "room"]) (nt:=1) (cap:=[2]) rfl (wG (names:=(qf jT).names) rfl (by decide +kernel)) (ki (names:=(qf jT).names) (N:=ub) rfl rfl (by decide +kernel)) (qZ rfl (vr 0)) (fun fp L s1 H1=>(qw (i:=0) (show aX (["number", "room"]:List Str) from by decide +kernel) rfl (ax rfl))) (fun fp L s1 H1=>jy) (fun fp L s1 H1=>(qm ok_is_between hr (by decide) uR rfl (qc (vr 0) (qc qt (qc (qT zv (vr 1) qt) qg))))))))))
abbrev kb:Stmt:=top 30
abbrev ue:List Str:=["thing", "count", "room"]
theorem xP:FnScope ue ["thing", "count", "room"] (qf kb):=⟨rfl,rfl,rfl,by decide +kernel,rfl,by decide +kernel,by decide +kernel⟩
noncomputable def vd:Sl->Out (Fl×Sl):=(sIf (Vg (gy (qv [.vl,.vl,.vl] ud (qd (qe 0) (qd (qe 1) (qd (qe 2) qC)))))) (wN "NoNumbers" (qd (dC (.str "numbers are a tuple of a number within the room for each word")) qC)) jN)
noncomputable abbrev vf:List D->Out (D×List D):=km ue [.val,.val,.val] (vd)
abbrev wC P w K mg base cv:=DefOk P w K mg base cv 3 "check_numbers" ["thing", "count", "room"] [.val,.val,.val] .sh (vf)
theorem xQ (Z:Zt K mg cv ca) (T:jf K mg "check_numbers" kb ["thing", "count", "room"]) (ok_is_numbers:yI P w K mg base cv):wC P w K mg base cv:=
 qL (k:=2) (own':=[]) (fb:=vd) T xP fun cdv f A outer s H E hr=>(qo (jA (kl (jH rfl (qm ok_is_numbers hr (by decide) qP rfl (qc (vr 0) (qc (vr 1) (qc (vr 2) qg)))) (fun _=>rfl))) (qo (wO rfl (Ka rfl) rfl rfl (Z.mref "NoNumbers" (by decide +kernel)) (Z.xs.val "NoNumbers" (by decide +kernel)) (Z.xin "NoNumbers" (by decide +kernel)) (qc vF qg))) jb))
abbrev vA:Stmt:=top 36
abbrev xG:List Str:=["words", "look", "room", "numbers", "seen"]
theorem sc_told_pairs:FnScope xG ["words", "look", "room", "numbers"] (qf vA):=⟨rfl,rfl,rfl,by decide +kernel,rfl,by decide +kernel,by decide +kernel⟩
noncomputable def uf:Sl->Out (Fl×Sl):=(qW (jE 4 (qv [.vl,.vl] uU (qd (qe 0) (qd (qe 1) qC))))
  (qW (kD (qv [.vl] ua (qd (qe 2) qC)))
  (qW (kD (qv [.vl,.vl,.vl] vf (qd (qe 3) (qd (d1 jI (qe 0)) (qd (qe 2) qC)))))
  (jL (qe 4)))))
noncomputable abbrev ug:List D->Out (D×List D):=km xG [.val,.val,.val,.val] (uf)
abbrev yJ P w K mg base cv:=DefOk P w K mg base cv 6 "told_pairs" ["words", "look", "room", "numbers"] [.val,.val,.val,.val] .sh (ug)
theorem Je (Z:Zt K mg cv ca) (T:jf K mg "told_pairs" vA ["words", "look", "room", "numbers"]) (ok_check_room:yH P w K mg base cv) (ok_check_numbers:wC P w K mg base cv) (ok_pairs:ze P w K mg base cv):yJ P w K mg base cv:=
 qL (k:=5) (own':=[]) (fb:=uf) T sc_told_pairs fun cdv f A outer s H E hr=>(ql (qK (i:=4) sc_told_pairs.nd rfl (ax rfl) (qm ok_pairs hr (by decide) qP rfl (qc (vr 0) (qc (vr 1) qg))))
  (ql (ju (qm ok_check_room hr (by decide) qP rfl (qc (vr 2) qg)))
  (ql (ju (qm ok_check_numbers hr (by decide) qP rfl (qc (vr 3) (qc (qG (jr rfl) rfl Z.z_len jn (vr 0)) (qc (vr 2) qg)))))
  (qo (qp (vr 4))))))
abbrev WU:Stmt:=top 40
abbrev qbp:List Str:=["walk", "room", "numbers", "total"]
theorem sc_bars:FnScope qbp ["walk", "room", "numbers"] (qf WU):=⟨rfl,rfl,rfl,by decide +kernel,rfl,by decide +kernel,by decide +kernel⟩
noncomputable def WV:Sl->Out (Fl×Sl):=(qW (jE 3 (qv [.vl,.vl,.vl] kT (qd (qe 0) (qd (qe 2) (qd (dC (.int 0)) qC)))))
  (qW (sIf (gy (qv [.vl] wn (qd (qe 0) qC))) (jL (Vh (d2 eqD (d2 vW (qe 1) (dC (.int 2))) (dC (.int 0))) (d2 eqD (d2 vW (qe 3) (dC (.int 2))) (dC (.int 1))))) jN)
  (jL (d2 neD (d2 vW (qe 3) (qe 1)) (dC (.int 0))))))
noncomputable abbrev WW:List D->Out (D×List D):=km qbp [.val,.val,.val] (WV)
abbrev Zk P w K mg base cv:=DefOk P w K mg base cv 2 "bars" ["walk", "room", "numbers"] [.val,.val,.val] .sh (WW)
theorem qcR (Z:Zt K mg cv ca) (T:jf K mg "bars" WU ["walk", "room", "numbers"]) (ok_comes_to:wt P w K mg base cv) (ok_is_odd:yF P w K mg base cv):Zk P w K mg base cv:=
 qL (k:=1) (own':=[]) (fb:=WV) T sc_bars fun cdv f A outer s H E hr=>(ql (qK (i:=3) sc_bars.nd rfl (ax rfl) (qm ok_comes_to hr (by decide) qP rfl (qc (vr 0) (qc (vr 2) (qc qt qg)))))
  (ql (jA (jH rfl (qm ok_is_odd hr (by decide) qP rfl (qc (vr 0) qg)) (fun _=>rfl)) (qo (qp (Wo (zu (uO rfl hr.units) (qT kx (vr 1) qt) qt) (YS (zu (uO rfl hr.units) (qT kx (vr 3) qt) qt))))) jb)
  (qo (qp (zu (Vf rfl hr.units) (qT kx (vr 3) (vr 1)) qt)))))
abbrev uy:Stmt:=top 45
abbrev zj:List Str:=["seen", "room", "numbers", "circles", "first", "joined", "root", "walk"]
theorem sc_bar_of:FnScope zj ["seen", "room", "numbers"] (qf uy):=⟨rfl,rfl,rfl,by decide +kernel,rfl,by decide +kernel,by decide +kernel⟩
noncomputable def Jf:Sl->Out (Fl×Sl):=(qW (jE 3 (qv [.vl,.vl] vy (qd (qe 0) (qd (qv [.vl] vN (qd (qe 0) qC)) qC))))
  (qW (jE 4 (qv [.vl] wq (qd (qe 3) qC)))
  (qW (jE 5 (jC [] 2 [4] (kG (qe 3)) (kg 2 (qH (gNm 0) (qH (gNm 1) kf))) (gy (qv [.vl] wn (qd (qe 1) qC))) (vj (qd (qe 0) (qd (d2 kt (d2 ixD (qe 2) (qe 0)) (qe 1)) qC)))))
  (qW (gA (kG (d2 kt (qe 3) (qe 5))) (kg 2 (qH (gNm 6) (qH (gNm 7) kf)))
  (sIf (gy (qv [.vl,.vl,.vl] WW (qd (qe 7) (qd (qe 1) (qd (qe 2) qC))))) (jL (vj (qd (qe 6) (qd (qe 7) qC)))) jN))
  (jL (dC .non))))))
noncomputable abbrev Jg:List D->Out (D×List D):=km zj [.val,.val,.val] (Jf)
abbrev Kw P w K mg base cv:=DefOk P w K mg base cv 4 "bar_of" ["seen", "room", "numbers"] [.val,.val,.val] .sh (Jg)
theorem Zl (Z:Zt K mg cv ca) (T:jf K mg "bar_of" uy ["seen", "room", "numbers"]) (ok_is_odd:yF P w K mg base cv) (ok_bars:Zk P w K mg base cv) (ok_ways_of:uw P w K mg base cv) (ok_circles_of:wm P w K mg base cv) (ok_first_odd:wY P w K mg base cv):Kw P w K mg base cv:=
 qL (k:=3) (own':=[]) (fb:=Jf) T sc_bar_of fun cdv f A outer s H E hr=>(ql (qK (i:=3) sc_bar_of.nd rfl (ax rfl) (qm ok_circles_of hr (by decide) qP rfl (qc (vr 0) (qc (qm ok_ways_of hr (by decide) qP rfl (qc (vr 0) qg)) qg))))
  (ql (qK (i:=4) sc_bar_of.nd rfl (bB rfl) (qm ok_first_odd hr (by decide) qP rfl (qc (vr 3) qg)))
  (ql (yn (N:=["root", "walk", "first"]) (nt:=2) (cap:=[4]) sc_bar_of.nd (i:=5) rfl (ax rfl) rfl (wG (names:=(qf uy).names) rfl (by decide +kernel)) (ki (names:=(qf uy).names) (N:=zj) rfl rfl (by decide +kernel)) (qZ rfl (vr 3)) (fun fp L s1 H1=>(wa rfl rfl (qO (qw (i:=0) (show aX (["root", "walk", "first"]:List Str) from by decide +kernel) rfl (ax rfl)) (qO (qw (i:=1) (show aX (["root", "walk", "first"]:List Str) from by decide +kernel) rfl (ax rfl)) kI)))) (fun fp L s1 H1=>(Qp (jH rfl (qm ok_is_odd hr (by decide) uR rfl (qc (vr 1) qg)) (fun _=>rfl)))) (fun fp L s1 H1=>(jQ (qc (vr 0) (qc (qT (jJ rfl) (jp rfl hr.units (vr 2) (vr 0) (fun _ _=>rfl)) (vr 1)) qg)))))
  (ql (jP aL rfl (qZ rfl (qT (jJ rfl) (vr 3) (kC (i:=5) rfl (ax rfl) (by decide)))) (wa rfl rfl (qO (qw (i:=6) sc_bar_of.nd rfl (ax rfl)) (qO (qw (i:=7) sc_bar_of.nd rfl (ax rfl)) kI)))
  (qo (jA (jH rfl (qm ok_bars hr (by decide) qP rfl (qc (vr 7) (qc (vr 1) (qc (vr 2) qg)))) (fun _=>rfl)) (qo (qp (jQ (qc (vr 6) (qc (vr 7) qg))))) jb)))
  (qo (qp Wh))))))
abbrev qaL:Stmt:=top 46
abbrev qeM:List Str:=["words", "look", "room", "numbers"]
theorem qeN:FnScope qeM ["words", "look", "room", "numbers"] (qf qaL):=⟨rfl,rfl,rfl,by decide +kernel,rfl,by decide +kernel,by decide +kernel⟩
noncomputable def qcS:Sl->Out (Fl×Sl):=(jL (qv [.vl,.vl,.vl] Jg (qd (qv [.vl,.vl,.vl,.vl] ug (qd (qe 0) (qd (qe 1) (qd (qe 2) (qd (qe 3) qC))))) (qd (qe 2) (qd (qe 3) qC)))))
noncomputable abbrev qcT:List D->Out (D×List D):=km qeM [.val,.val,.val,.val] (qcS)
abbrev qbq P w K mg base cv:=DefOk P w K mg base cv 7 "bar" ["words", "look", "room", "numbers"] [.val,.val,.val,.val] .sh (qcT)
theorem qeO (Z:Zt K mg cv ca) (T:jf K mg "bar" qaL ["words", "look", "room", "numbers"]) (ok_told_pairs:yJ P w K mg base cv) (ok_bar_of:Kw P w K mg base cv):qbq P w K mg base cv:=
 qL (k:=6) (own':=[]) (fb:=qcS) T qeN fun cdv f A outer s H E hr=>(qo (qp (qm ok_bar_of hr (by decide) qP rfl (qc (qm ok_told_pairs hr (by decide) qP rfl (qc (vr 0) (qc (vr 1) (qc (vr 2) (qc (vr 3) qg))))) (qc (vr 2) (qc (vr 3) qg))))))
abbrev uz:Stmt:=top 52
abbrev xj:List Str:=["words", "look", "room", "numbers", "count", "root", "choices"]
theorem sc_how_many:FnScope xj ["words", "look", "room", "numbers"] (qf uz):=⟨rfl,rfl,rfl,by decide +kernel,rfl,by decide +kernel,by decide +kernel⟩
noncomputable def uA:Sl->Out (Fl×Sl):=(qW (sIf (jg (d2 GG (qv [.vl,.vl,.vl,.vl] qcT (qd (qe 0) (qd (qe 1) (qd (qe 2) (qd (qe 3) qC))))) (dC .non))) (jL (dC (.int 0))) jN)
  (qW (jE 4 (dC (.int 1)))
  (qW (gA (kG (qv [.vl,.vl,.vl] vQ (qd (qv [.vl,.vl] uU (qd (qe 0) (qd (qe 1) qC))) (qd (qe 2) (qd (qe 3) qC))))) (kg 2 (qH (gNm 5) (qH (gNm 6) kf)))
  (jE 4 (d2 Ye (qe 4) (d1 jI (qe 6)))))
  (jL (qe 4)))))
noncomputable abbrev xl:List D->Out (D×List D):=km xj [.val,.val,.val,.val] (uA)
abbrev ge P w K mg base cv:=DefOk P w K mg base cv 8 "how_many" ["words", "look", "room", "numbers"] [.val,.val,.val,.val] .sh (xl)
theorem VR (Z:Zt K mg cv ca) (T:jf K mg "how_many" uz ["words", "look", "room", "numbers"]) (ok_pairs:ze P w K mg base cv) (ok_bar:qbq P w K mg base cv) (ok_roots_of:uX P w K mg base cv):ge P w K mg base cv:=
 qL (k:=7) (own':=[]) (fb:=uA) T sc_how_many fun cdv f A outer s H E hr=>(ql (jA (qX qb9 (qm ok_bar hr (by decide) qP rfl (qc (vr 0) (qc (vr 1) (qc (vr 2) (qc (vr 3) qg))))) Wh) (qo (qp qt)) jb)
  (ql (qK (i:=4) sc_how_many.nd rfl (ax rfl) qt)
  (ql (jP aL rfl (qZ rfl (qm ok_roots_of hr (by decide) qP rfl (qc (qm ok_pairs hr (by decide) qP rfl (qc (vr 0) (qc (vr 1) qg))) (qc (vr 2) (qc (vr 3) qg))))) (wa rfl rfl (qO (qw (i:=5) sc_how_many.nd rfl (ax rfl)) (qO (qw (i:=6) sc_how_many.nd rfl (ax rfl)) kI)))
  (qo (qK (i:=4) sc_how_many.nd rfl (ax rfl) (qT JO (vr 4) (qG (jr rfl) rfl Z.z_len jn (vr 6))))))
  (qo (qp (vr 4))))))
abbrev wx:Stmt:=top 53
abbrev uY:List Str:=["roots", "at", "starts", "rest", "root", "choices"]
theorem sc_starts_at:FnScope uY ["roots", "at"] (qf wx):=⟨rfl,rfl,rfl,by decide +kernel,rfl,by decide +kernel,by decide +kernel⟩
noncomputable def uZ:Sl->Out (Fl×Sl):=(qW (jE 2 (dC (.dct [])))
  (qW (jE 3 (qe 1))
  (qW (gA (qgE (qe 0)) (kg 2 (qH (gNm 4) (qH (gNm 5) kf)))
  (qW (xN 2 (d2 ixD (qe 5) (d2 vW (qe 3) (d1 jI (qe 5)))) (qe 4))
  (jE 3 (d2 yP (qe 3) (d1 jI (qe 5))))))
  (jL (qe 2)))))
noncomputable abbrev ya:List D->Out (D×List D):=km uY [.val,.val] (uZ)
abbrev xH P w K mg base cv:=DefOk P w K mg base cv 1 "starts_at" ["roots", "at"] [.val,.val] .sh (ya)
theorem Ky (Z:Zt K mg cv ca) (T:jf K mg "starts_at" wx ["roots", "at"]):xH P w K mg base cv:=
 qL (k:=0) (own':=[]) (fb:=uZ) T sc_starts_at fun cdv f A outer s H E hr=>(ql (jM (i:=2) sc_starts_at.nd rfl (ax rfl) Qj)
  (ql (qK (i:=3) sc_starts_at.nd rfl (ax rfl) (vr 1))
  (ql (jP aL rfl (qcM rfl rfl Z.z_reversed (vr 0)) (wa rfl rfl (qO (qw (i:=4) sc_starts_at.nd rfl (ax rfl)) (qO (qw (i:=5) sc_starts_at.nd rfl (ax rfl)) kI)))
  (ql (xY (n:=2) hr.units rfl (ax rfl) (by decide) (jp rfl hr.units (vr 5) (qT kx (vr 3) (qG (jr rfl) rfl Z.z_len jn (vr 5))) (fun _ _=>rfl)) (vr 4))
  (qo (qK (i:=3) sc_starts_at.nd rfl (ax rfl) (qT zw (vr 3) (qG (jr rfl) rfl Z.z_len jn (vr 5)))))))
  (kH [2] (qo (qp (vr 2)))))))
abbrev wy:Stmt:=top 54
abbrev gf:List Str:=["words", "look", "room", "numbers", "at", "count", "seen"]
theorem sc_worths_at:FnScope gf ["words", "look", "room", "numbers", "at"] (qf wy):=⟨rfl,rfl,rfl,by decide +kernel,rfl,by decide +kernel,by decide +kernel⟩
noncomputable def wz:Sl->Out (Fl×Sl):=(qW (jE 5 (qv [.vl,.vl,.vl,.vl] xl (qd (qe 0) (qd (qe 1) (qd (qe 2) (qd (qe 3) qC))))))
  (qW (sIf (Vg (gy (qv [.vl,.vl,.vl] js (qd (qe 4) (qd (dC (.int 0)) (qd (d2 Qi (qe 5) (dC (.int 1))) qC)))))) (wN "NoPlace" (qd (dC (.str "there are no worths of this number")) qC)) jN)
  (qW (jE 6 (qv [.vl,.vl] uU (qd (qe 0) (qd (qe 1) qC))))
  (jL (qv [.vl,.vl,.vl,.vl] ww (qd (qe 6) (qd (qe 2) (qd (qe 3) (qd (qv [.vl,.vl] ya (qd (qv [.vl,.vl,.vl] vQ (qd (qe 6) (qd (qe 2) (qd (qe 3) qC)))) (qd (qe 4) qC))) qC)))))))))
noncomputable abbrev kr:List D->Out (D×List D):=km gf [.val,.val,.val,.val,.val] (wz)
abbrev xI P w K mg base cv:=DefOk P w K mg base cv 9 "worths_at" ["words", "look", "room", "numbers", "at"] [.val,.val,.val,.val,.val] .sh (kr)
theorem Kz (Z:Zt K mg cv ca) (T:jf K mg "worths_at" wy ["words", "look", "room", "numbers", "at"]) (ok_is_between:jZ P w K mg base cv) (ok_pairs:ze P w K mg base cv) (ok_roots_of:uX P w K mg base cv) (ok_worths_from:uI P w K mg base cv) (ok_how_many:ge P w K mg base cv) (ok_starts_at:xH P w K mg base cv):xI P w K mg base cv:=
 qL (k:=8) (own':=[]) (fb:=wz) T sc_worths_at fun cdv f A outer s H E hr=>(ql (qK (i:=5) sc_worths_at.nd rfl (ax rfl) (qm ok_how_many hr (by decide) qP rfl (qc (vr 0) (qc (vr 1) (qc (vr 2) (qc (vr 3) qg))))))
  (ql (jA (kl (jH rfl (qm ok_is_between hr (by decide) qP rfl (qc (vr 4) (qc qt (qc (qT zv (vr 5) qt) qg)))) (fun _=>rfl))) (qo (wO rfl (Ka rfl) rfl rfl (Z.mref "NoPlace" (by decide +kernel)) (Z.xs.val "NoPlace" (by decide +kernel)) (Z.xin "NoPlace" (by decide +kernel)) (qc vF qg))) jb)
  (ql (qK (i:=6) sc_worths_at.nd rfl (ax rfl) (qm ok_pairs hr (by decide) qP rfl (qc (vr 0) (qc (vr 1) qg))))
  (qo (qp (qm ok_worths_from hr (by decide) qP rfl (qc (vr 6) (qc (vr 2) (qc (vr 3) (qc (qm ok_starts_at hr (by decide) qP rfl (qc (qm ok_roots_of hr (by decide) qP rfl (qc (vr 6) (qc (vr 2) (qc (vr 3) qg)))) (qc (vr 4) qg))) qg))))))))))
abbrev zk:Stmt:=top 69
abbrev WX:List Str:=["_law_e", "_law_own"]
theorem sc_Lwhich:FnScope WX ["_law_e"] (qf zk):=⟨rfl,rfl,rfl,by decide +kernel,rfl,by decide +kernel,by decide +kernel⟩
noncomputable def Jh (ca:Str->Addr):Sl->Out (Fl×Sl):=(qW (jE 1 (wL (qd (d1 (gB (Kb ca CS "NoWords")) (qe 0)) (qd (d1 (gB (Kb ca CS "NoLook")) (qe 0)) (qd (d1 (gB (Kb ca CS "NoNumbers")) (qe 0)) (qd (d1 (gB (Kb ca CS "NoRoom")) (qe 0)) qC))))))
  (qW (kD (zz 1 Xk (wL (qd (d1 (gB (Kb ca CS "NoWord")) (qe 0)) (qd (d1 (gB (Kb ca CS "NoWorths")) (qe 0)) (qd (d1 (gB (Kb ca CS "Never")) (qe 0)) (qd (d1 (gB (Kb ca CS "Full")) (qe 0)) qC)))))))
  (qW (kD (zz 1 Xk (wL (qd (d1 (gB (Kb ca CS "Known")) (qe 0)) (qd (d1 (gB (Kb ca CS "NoPlace")) (qe 0)) (qd (d1 (gB (Kb ca CS "NoLetters")) (qe 0)) (qd (d1 (gB (Kb ca CS "NoText")) (qe 0)) qC)))))))
  (qW (kD (zz 1 Qq (d1 (gB (Kb ca CS "Nothing")) (qe 0))))
  (qW (sIf (dOr (jg (d2 neD (d1 (WA true) (qe 1)) (dC (.int 1)))) (Vg (gy (d1 (gB (qeq ca CS)) (qe 0))))) (jL (vj (qd (dC (.str "refused")) (qd (d1 qcq (dC (.int 1))) qC)))) jN)
  (jL (vj (qd (dC (.str "refused")) (qd (d1 (WB true) (qe 1)) qC)))))))))
noncomputable abbrev Ji (ca:Str->Addr):List D->Out (D×List D):=km WX [.val] (Jh ca)
abbrev KA (ca:Str->Addr) P w K mg base cv:=qgl P w K mg base cv 1 "_law_which" ["_law_e"] [.val] .sh (Ji ca)
theorem Zm (Z:Zt K mg cv ca) (T:jf K mg "_law_which" zk ["_law_e"]):KA ca P w K mg base cv:=
 qgm (k:=0) (own':=[]) (fb:=Jh ca) T sc_Lwhich fun cdv f A outer s H E hr=>(ql (jM (i:=1) sc_Lwhich.nd rfl (ax rfl) (jB (qc (vJ rfl Z.z_isinstance qx rfl (Z.mref "NoWords" (by decide +kernel)) (Z.xs.ans (by decide +kernel)) (vr 0)) (qc (vJ rfl Z.z_isinstance qx rfl (Z.mref "NoLook" (by decide +kernel)) (Z.xs.ans (by decide +kernel)) (vr 0)) (qc (vJ rfl Z.z_isinstance qx rfl (Z.mref "NoNumbers" (by decide +kernel)) (Z.xs.ans (by decide +kernel)) (vr 0)) (qc (vJ rfl Z.z_isinstance qx rfl (Z.mref "NoRoom" (by decide +kernel)) (Z.xs.ans (by decide +kernel)) (vr 0)) qg))))))
  (ql (ju (yq (i:=1) rfl (ax rfl) (by decide) (jB (qc (vJ rfl Z.z_isinstance qx rfl (Z.mref "NoWord" (by decide +kernel)) (Z.xs.ans (by decide +kernel)) (vr 0)) (qc (vJ rfl Z.z_isinstance qx rfl (Z.mref "NoWorths" (by decide +kernel)) (Z.xs.ans (by decide +kernel)) (vr 0)) (qc (vJ rfl Z.z_isinstance qx rfl (Z.mref "Never" (by decide +kernel)) (Z.xs.ans (by decide +kernel)) (vr 0)) (qc (vJ rfl Z.z_isinstance qx rfl (Z.mref "Full" (by decide +kernel)) (Z.xs.ans (by decide +kernel)) (vr 0)) qg)))))))
  (ql (ju (yq (i:=1) rfl (ax rfl) (by decide) (jB (qc (vJ rfl Z.z_isinstance qx rfl (Z.mref "Known" (by decide +kernel)) (Z.xs.ans (by decide +kernel)) (vr 0)) (qc (vJ rfl Z.z_isinstance qx rfl (Z.mref "NoPlace" (by decide +kernel)) (Z.xs.ans (by decide +kernel)) (vr 0)) (qc (vJ rfl Z.z_isinstance qx rfl (Z.mref "NoLetters" (by decide +kernel)) (Z.xs.ans (by decide +kernel)) (vr 0)) (qc (vJ rfl Z.z_isinstance qx rfl (Z.mref "NoText" (by decide +kernel)) (Z.xs.ans (by decide +kernel)) (vr 0)) qg)))))))
  (ql (ju (vH (i:=1) rfl rfl (ax rfl) (by decide) (vJ rfl Z.z_isinstance qx rfl (Z.mref "Nothing" (by decide +kernel)) (Z.xs.ans (by decide +kernel)) (vr 0))))
  (kH [1] (ql (jA (PW.pt (zx (qX (Vf rfl hr.units) (GW rfl (vr 1)) qt) (vY (kl (jH rfl (qcu rfl Z.z_isinstance qx rfl Z.z_ValueError QD Z.xs.ansV (vr 0)) (fun _=>rfl)))))) (qo (qp (jQ (qc vF (qc (GB Wv qt) qg))))) jb)
  (qo (qp (jQ (qc vF (qc (GX rfl (vr 1)) qg)))))))))))
abbrev WY:Stmt:=top 70
abbrev qbr:List Str:=["_law_names", "_law_look_here", "_law_room", "_law_numbers", "_law_at_here", "_law_e"]
theorem sc_Lask:FnScope qbr ["_law_names", "_law_look_here", "_law_room", "_law_numbers", "_law_at_here"] (qf WY):=⟨rfl,rfl,rfl,by decide +kernel,rfl,by decide +kernel,by decide +kernel⟩
noncomputable def WZ (ca:Str->Addr):Sl->Out (Fl×Sl):=(qcn 6 (some 5) (qep ca CS) (jL (qv [.vl,.vl,.vl,.vl,.vl] kr (qd (qe 0) (qd (qe 1) (qd (qe 2) (qd (qe 3) (qd (qe 4) qC))))))) (jL (qv [.vl] (Ji ca) (qd (qe 5) qC))))
noncomputable abbrev gh (ca:Str->Addr):List D->Out (D×List D):=km qbr [.val,.val,.val,.val,.val] (WZ ca)
abbrev Zn (ca:Str->Addr) P w K mg base cv:=DefOk P w K mg base cv 10 "_law_ask" ["_law_names", "_law_look_here", "_law_room", "_law_numbers", "_law_at_here"] [.val,.val,.val,.val,.val] .sh (gh ca)
theorem qcU (Z:Zt K mg cv ca) (T:jf K mg "_law_ask" WY ["_law_names", "_law_look_here", "_law_room", "_law_numbers", "_law_at_here"]) (ok_worths_at:xI P w K mg base cv) (ok_Lwhich:KA ca P w K mg base cv):Zn ca P w K mg base cv:=
 qL (k:=9) (own':=[]) (fb:=WZ ca) T sc_Lask fun cdv f A outer s H E hr=>(qo (qco (own2:=[]) (n:=6) (j:=5) rfl rfl rfl rfl Z.m_WordError Z.xs.hit sc_Lask.nd rfl rfl rfl (fun pn xe E hx=>(qo (qp (qm ok_worths_at hr (by decide) hx rfl (qc (vr 0) (qc (vr 1) (qc (vr 2) (qc (vr 3) (qc (vr 4) qg))))))))) (fun e=>(qo (qp (Xj ok_Lwhich ((hr.quiet.mono (by decide)).mark _) uR rfl (qc (vr 5) qg)))))))
abbrev Jj:Stmt:=top 71
abbrev Zo:List Str:=["_law_script", "_law_town", "_law_places", "_law_due", "_law_at_here", "_law_wrong", "_law_names", "_law_look_here", "_law_room", "_law_numbers"]
theorem sc_law:FnScope Zo ["_law_script"] (qf Jj):=⟨rfl,rfl,rfl,by decide +kernel,rfl,by decide +kernel,by decide +kernel⟩
noncomputable def qcV (ca:Str->Addr):Sl->Out (Fl×Sl):=(qW (jE 1 (wL qC))
  (qW (jE 2 (jC [1] 1 [0,1] (jw (dC (.int 5))) (gNm 0) ftT (qv [.vl,.sl 2,.vl] jv (qd (qe 1) (jO (qd (dC (.int 9973)) qC))))))
  (qW (qgf (qv [.vl,.sl 1,.vl,.vl] VJ (qd (qe 0) (jO (qd (dC (.int 5)) (qd (dC (.int 4)) qC))))) (kg 4 (qH (gNm 6) (qH (gNm 7) (qH (gNm 8) (qH (gNm 9) kf))))))
  (qW (jE 3 (jC [2,1] 1 [9,6,7,8] (kG (qv [.vl,.vl,.vl] zd (qd (qe 6) (qd (qe 7) (qd (qe 8) qC))))) (gNm 0) (jg (d2 eqD (qv [.vl,.vl,.vl,.vl] XZ (qd (qe 2) (qd (qe 3) (qd (qe 4) (qd (d1 UE (qe 0)) qC))))) (qe 1))) (qe 0)))
  (qW (gA (kG (d2 kt (qe 2) (wL (qd (dC (.int 0)) (qd (d2 Qi (d1 jI (qe 3)) (dC (.int 1))) qC))))) (gNm 4)
  (qW (jE 4 (d2 vW (qe 4) (d2 qbh (dC (.int 1)) (d1 jI (qe 3)))))
  (sIf (jg (d2 neD (qv [.vl,.vl,.vl,.vl,.vl] (gh ca) (qd (qe 6) (qd (qe 7) (qd (qe 8) (qd (qe 9) (qd (qe 4) qC)))))) (dIf (jg (d2 neD (qe 3) (wL qC))) (d2 ixD (qe 3) (qe 4)) (vj (qd (dC (.str "refused")) (qd (dC (.int 9)) qC)))))) (jL (dC (.bl false))) jN)))
  (qW (jE 5 (qv [.vl,.sl 1,.vl] yV (qd (qe 0) (jO (qd (wL (qd (d1 qcq (dC (.int 1))) (qd (d1 jI (qe 3)) (qd (d2 kt (d1 jI (qe 3)) (dC (.int 3))) (qd (dC .non) (qd (dC (.bl true)) (qd (dC (.str "0")) (qd (vj (qd (dC (.int 0)) qC)) qC)))))))) qC)))))
  (jL (d2 eqD (qv [.vl,.vl,.vl,.vl,.vl] (gh ca) (qd (qe 6) (qd (qe 7) (qd (qe 8) (qd (qe 9) (qd (qe 5) qC)))))) (vj (qd (dC (.str "refused")) (qd (dC (.int 9)) qC)))))))))))
noncomputable abbrev qaM (ca:Str->Addr):List D->Out (D×List D):=km Zo [.val] (qcV ca)
theorem qeP {f:Addr} {fd:FuncData} (Z:Zt K mg cv ca) (F:Fun K "law" "law" Jj f fd) (ok_Ldraw:wc P w K mg base cv) (ok_Lpick:za P w K mg base cv) (ok_Lby:Za P w K mg base cv) (ok_Ltold:WR P w K mg base cv) (ok_Levery:Kq P w K mg base cv) (ok_Lask:Zn ca P w K mg base cv):FnOk P w K mg base (CXk P w) 11 f fd ["_law_script"] (spD K cv [.val] .sh (qaM ca)):=
 qg2 (k:=10) (own':=[]) (fb:=qcV ca) F sc_law rfl (wK rfl) (.inl rfl) (fun cdv A outer s H E hr=>(ql (jM (i:=1) sc_law.nd rfl (bB rfl) (jB qg))
  (ql (yn (N:=["_law_k", "_law_script", "_law_town"]) (nt:=1) (cap:=[0,1]) sc_law.nd (i:=2) rfl (ax rfl) rfl (wG (names:=(qf Jj).names) rfl (by decide +kernel)) (ki (names:=(qf Jj).names) (N:=Zo) rfl rfl (by decide +kernel)) (kP rfl Z.z_range qt) (fun fp L s1 H1=>(qw (i:=0) (show aX (["_law_k", "_law_script", "_law_town"]:List Str) from by decide +kernel) rfl (ax rfl))) (fun fp L s1 H1=>jy) (fun fp L s1 H1=>(qm ok_Ldraw hr (by decide) uR rfl (qc (vr 1) (qY (i:=2) rfl (by first | exact bB (bB rfl) | exact bB (ax rfl)) (by decide) (qc qt qg))))))
  (ql (qcg (qm ok_Ltold hr (by decide) qP rfl (qc (vr 0) (qY (i:=1) rfl (bB (ax rfl)) (by decide) (qc qt (qc qt qg))))) (wa rfl rfl (qO (qw (i:=6) sc_law.nd rfl (bB rfl)) (qO (qw (i:=7) sc_law.nd rfl (bB rfl)) (qO (qw (i:=8) sc_law.nd rfl (bB rfl)) (qO (qw (i:=9) sc_law.nd rfl (bB rfl)) kI))))))
  (ql (yn (N:=["_law_line", "_law_numbers", "_law_names", "_law_look_here", "_law_room"]) (nt:=1) (cap:=[9,6,7,8]) sc_law.nd (i:=3) rfl (ax rfl) rfl (wG (names:=(qf Jj).names) rfl (by decide +kernel)) (ki (names:=(qf Jj).names) (N:=Zo) rfl rfl (by decide +kernel)) (qZ rfl (qm ok_Levery hr (by decide) qP rfl (qc (vr 6) (qc (vr 7) (qc (vr 8) qg))))) (fun fp L s1 H1=>(qw (i:=0) (show aX (["_law_line", "_law_numbers", "_law_names", "_law_look_here", "_law_room"]:List Str) from by decide +kernel) rfl (ax rfl))) (fun fp L s1 H1=>(Qp (qX (uO rfl hr.units) (qm ok_Lby hr (by decide) uR rfl (qc (vr 2) (qc (vr 3) (qc (vr 4) (qc (ky (qcv rfl rfl) rfl Z.z_dict XT (vr 0)) qg))))) (vr 1)))) (fun fp L s1 H1=>(vr 0)))
  (kH [2,3] (ql (jP aL rfl (qZ rfl (qT (jJ rfl) (vr 2) (jB (qc qt (qc (qT zv (qG (jr rfl) rfl Z.z_len jn (vr 3)) qt) qg))))) (qw (i:=4) sc_law.nd rfl (ax rfl))
  (ql (qK (i:=4) sc_law.nd rfl (ax rfl) (qT kx (vr 4) (zA (qbi rfl) rfl Z.z_max qbl qt (qG (jr rfl) rfl Z.z_len jn (vr 3)))))
  (qo (jA (qX (Vf rfl hr.units) (qm ok_Lask hr (by decide) qP rfl (qc (vr 6) (qc (vr 7) (qc (vr 8) (qc (vr 9) (qc (vr 4) qg)))))) (Uv (qX (Vf rfl hr.units) (vr 3) (jB qg)) (jp rfl hr.units (vr 3) (vr 4) (fun _ _=>rfl)) (jQ (qc vF (qc qt qg))))) (qo (qp JM)) jb))))
  (ql (qK (i:=5) sc_law.nd rfl (ax rfl) (qm ok_Lpick hr (by decide) qP rfl (qc (vr 0) (qY (i:=1) rfl (bB (ax rfl)) (by decide) (qc (jB (qc (GB Wv qt) (qc (qG (jr rfl) rfl Z.z_len jn (vr 3)) (qc (qT (jJ rfl) (qG (jr rfl) rfl Z.z_len jn (vr 3)) qt) (qc Wh (qc JM (qc vF (qc (jQ (qc qt qg)) qg)))))))) qg)))))
  (qo (qp (zu (uO rfl hr.units) (qm ok_Lask hr (by decide) qP rfl (qc (vr 6) (qc (vr 7) (qc (vr 8) (qc (vr 9) (qc (vr 5) qg)))))) (jQ (qc vF (qc qt qg)))))))))))))) fun _=>.inr rfl
end
end Kx
namespace Kx
open PySem PySem.Spec L2 L2.D2
variable {α:Type}
theorem vD (xs:List α) (k:Nat):atI xs (k:Int)=xs[k]?:=by
 unfold atI ixN
 rw [if_pos (by omega)]
 by_cases h:k < xs.length
 ·rw [if_pos (by omega)]
  simp
 ·rw [if_neg (by omega),bZ (by omega)]
  rfl
theorem qeQ {xs:List α} {i:Int} (h0:0<=i) (h1:i < xs.length):∃ d,atI xs i=some d/\d∈xs:=by
 obtain ⟨k,rfl⟩:=cT h0
 have hk:k < xs.length:=by omega
 exact ⟨xs[k],by rw [vD,aC hk],ce hk⟩
theorem big:2000<=sizeLine:=by rw [sizeLine_eq]; decide
abbrev scr (ns:List Int):D:=.lst (ns.map .int)
theorem qcW (ns:List Int) (k:Nat):∃ i,yU [scr ns,.int k]=.ok (.int i,[.non,.non]):=by
 by_cases h:k < ns.length
 ·refine ⟨ns[k],?_⟩
  refine runD_ap.trans ?_
  simp [vK,qy,jI,ltD,ixD,qA,h,vD]
 ·by_cases h0:ns=[]
  ·subst h0
   have hk:¬((k:Int) < 0):=by omega
   exact ⟨0,by refine runD_ap.trans ?_; simp [vK,qy,jI,ltD,ixD,qA,eqD,eqN,vX,hk]⟩
  ·have hp:0 < ns.length:=cO.mpr h0
   have hm:k % ns.length < ns.length:=eY _ hp
   have e:atI (ns.map D.int) ((k:Int) % (ns.length:Int))=some (.int ns[k % ns.length]):=by
    rw [show ((k:Int) % (ns.length:Int))=((k % ns.length:Nat):Int) by simp,vD,aF,aC hm]
    rfl
   refine ⟨ns[k % ns.length] * 31+k,?_⟩
   refine runD_ap.trans ?_
   simp [vK,qy,jI,ltD,ixD,qA,eqD,eqN,h,h0,vW,Ye,kt,vV,hp,e,CMul]
variable {many:Int}
theorem qaN (ns:List Int) (k:Nat) (hm:0 < many):∃ r,0<=r/\r < many/\QG [scr ns,.int k,.int many]=.ok (.int r,[.non,.non,.non]):=by
 obtain ⟨c,hc⟩:=qcW ns k
 have h1:=cw (c * 1103515245+7919 * k+12345) (show (2147483647:Int)≠0 by decide)
 have h2:=bN (c * 1103515245+7919 * k+12345) (show (0:Int) < 2147483647 by decide)
 generalize hd:(c * 1103515245+7919 * (k:Int)+12345) % 2147483647=d at h1 h2
 have c1:L2.D2.qdp d 5:=⟨⟨by omega,by omega⟩,by omega,by omega⟩
 refine ⟨d ^ 5 % 2147483647 % 999983 % many,cw _ (by omega),bN _ hm,?_⟩
 refine runD_ap.trans ?_
 simp [QF,qy,qA,qE,jl,hc,Ye,vW,kt,qgD,vV,hm,hd,c1,show ∀ j,CMul 7919 j from fun j=>.inl ⟨by omega,by omega⟩,show ∀ i,CMul i 1103515245 from fun i=>.inr ⟨by omega,by omega⟩]
theorem vg (ns:List Int) (town:List D) (hm:0 < many) (ht:town.length < 1000):∃ r,0<=r/\r < many/\jv [scr ns,.lst town,.int many]=.ok (.int r,[.non,.lst (town++[.int 0]),.non]):=by
 obtain ⟨r,h0,h1,h⟩:=qaN ns (town.length+1) hm
 have hl:town.length < sizeLine:=aH (cV ht (by decide)) big
 refine ⟨r,h0,h1,?_⟩
 simp at h
 refine runD_ap.trans ?_
 simp [VA,qy,qA,qE,jl,wQ,Qq,jI,hl,h]
theorem VS (ns:List Int) (town xs:List D) (hx:xs≠[]) (ht:town.length < 1000):∃ d,d∈xs/\yV [scr ns,.lst town,.lst xs]=.ok (d,[.non,.lst (town++[.int 0]),.non]):=by
 have hp:0 < xs.length:=cO.mpr hx
 obtain ⟨r,h0,h1,h⟩:=vg ns town (many:=(xs.length:Int)) (by omega) ht
 obtain ⟨d,e,hd⟩:=qeQ (xs:=xs) h0 h1
 refine ⟨d,hd,?_⟩
 refine runD_ap.trans ?_
 simp [VB,qy,qA,qE,jl,jI,h,ixD,e]
def az (c:Nat):Prop:=97<=c/\c<=122
def qaO (w:Str):Prop:=1<=w.length/\w.length<=6/\∀ c∈w.cps.toList,az c
theorem gi (x:Str):x.length=x.cps.size:=rfl
theorem Zp (x y:Str):(x++y).cps=x.cps++y.cps:=rfl
def qfJ (ls:List Str):Prop:=ls≠[]/\∀ x∈ls,∃ c,az c/\x=⟨#[c]⟩
theorem Zq:∀ cs:List Nat,eS (aV "") (cs.map fun c=>(⟨#[c]⟩:Str))=⟨cs.toArray⟩:=by
 intro cs
 have e:∀ cs:List Nat,Str.join (aV "") (cs.map fun c=>(⟨#[c]⟩:Str))=⟨cs.toArray⟩:=by
  intro cs
  induction cs with
  | nil=>rfl
  | cons c cs ih=>
   cases cs with
   | nil=>rfl
   | cons d ds=>
    show (⟨#[c]⟩:Str)++aV ""++Str.join (aV "") ((d::ds).map fun c=>(⟨#[c]⟩:Str))=_
    rw [ih]
    have:((⟨#[c]⟩:Str)++aV ""++(⟨(d::ds).toArray⟩:Str)).cps=(c::d::ds).toArray:=by
     rw [Zp,Zp]
     have:(aV "").cps=#[]:=by decide +kernel
     rw [this]
     simp
    generalize h:(⟨#[c]⟩:Str)++aV ""++(⟨(d::ds).toArray⟩:Str)=x at this
    obtain ⟨y⟩:=x
    simp only at this
    rw [this]
 unfold eS
 rw [StrLaws.glued_eq_join]
 exact e cs
theorem Ua:∀ cs:List Nat,((cs.map fun c=>(⟨#[c]⟩:Str)).map (·.length)).sum=cs.length
 | []=>rfl
 | c::cs=>by
  have ih:=Ua cs
  rw [aG,aG,List.sum_cons,ih,ao]
  show 1 + _=_
  omega
theorem uh:∀ ws:List Str,zI (ws.map D.str)=some ws
 | []=>rfl
 | w::ws=>by simp [zI,uh ws]
variable {ls:List Str}
theorem KB (ns:List Int) (hl:qfJ ls):∀ (ds:List D) (town:List D) (k:Option D),town.length+ds.length < 1000 ->
  ∃ (cs:List Nat) (town':List D) (k':Option D),town'.length=town.length+ds.length/\cs.length=ds.length/\(∀ c∈cs,az c) /\
   jx (gNm 0) ftT (qv [.vl,.sl 2,.vl] yV (qd (qe 1) (jO (qd (qe 3) qC)))) ds [k,some (scr ns),some (.lst town),some (.lst (ls.map D.str))]
    = .ok ((cs.map fun c=>(⟨#[c]⟩:Str)).map D.str,[k',some (scr ns),some (.lst town'),some (.lst (ls.map D.str))])
 | [],town,k,_=>⟨[],town,k,by simp,rfl,by simp,rfl⟩
 | d::ds,town,k,ht=>by
  rw [ao] at ht
  obtain ⟨e,he,hp⟩:=VS ns town (ls.map D.str) (by simpa using hl.1) (by omega)
  obtain ⟨x,hx,rfl⟩:=ah.mp he
  obtain ⟨c,hc,rfl⟩:=hl.2 x hx
  obtain ⟨cs,town',k',a1,a2,a3,a4⟩:=KB ns hl ds (town++[.int 0]) (some d) (by rw [af]; simp; omega)
  refine ⟨c::cs,town',k',?_,by simp [a2],?_,?_⟩
  ·rw [a1,af,ao]
   simp
   omega
  ·intro y hy
   rcases ac.mp hy with rfl | hy
   ·exact hc
   ·exact a3 y hy
  ·simp [jx,ym,qE,jl,hp,a4]
theorem qcX (ns:List Int) (town:List D) (hl:qfJ ls) (ht:town.length < 900):∃ w town',qaO w/\town'.length<=town.length+8/\QL [scr ns,.lst town,.lst (ls.map D.str),.int 6]=.ok (.str w,[.non,.lst town',.non,.non]):=by
 obtain ⟨r,r0,r1,hr⟩:=vg ns town (many:=6) (by omega) (by omega)
 have hlen:(xx 0 (1+r).toNat).length=(1+r).toNat:=by simp [xx]
 obtain ⟨cs,town',k',a1,a2,a3,a4⟩:=KB ns hl (xx 0 (1+r).toNat) (town++[.int 0]) none (by rw [hlen,af]; simp; omega)
 rw [hlen] at a1 a2
 rw [af] at a1
 simp at a1
 refine ⟨⟨cs.toArray⟩,town',⟨?_,?_,?_⟩,by omega,?_⟩
 ·show 1<=cs.toArray.size
  simp; omega
 ·show cs.toArray.size<=6
  simp; omega
 ·simpa using a3
 ·refine runD_ap.trans ?_
  have c1:-(2 ^ 62:Int)<=1+r/\1+r < 2 ^ 62:=by omega
  have hb:=big
  have hz:(xx 0 (1+r).toNat).length<=sizeLine:=by rw [hlen]; omega
  have e0:fF (aV "")=0:=by decide +kernel
  have hs:=Ua cs
  have hj:XD (aV "") (.lst ((cs.map fun c=>(⟨#[c]⟩:Str)).map D.str))=.ok (.str ⟨cs.toArray⟩):=by
   unfold XD
   simp only [uh,Zq,hs]
   rw [if_pos ⟨by simp [e0]; omega,by show cs.toArray.size<=_; simp; omega⟩]
  simp only [VE,qy,zK,UK,jC]
  simp [-bD,qE,jl,hr,jw,kt,-Int.reducePow,c1,hz,kJ,a4,jF,hj,qA]
theorem yK (w:Str):∀ ws:List Str,KR 7 (.str w) (ws.map D.str)=some (decide (w∈ws))
 | []=>by simp [KR]
 | a::ws=>by
  have ih:=yK w ws
  simp only [aG,KR,ih]
  simp [eqN,eqS]
  by_cases h:a=w
  ·simp [h]
  ·simp [h,aU h]
def jo (ws:List Str):Prop:=1<=ws.length/\ws.length<=6/\ws.Nodup/\∀ w∈ws,qaO w
abbrev Zr:Sl->Out (Fl×Sl):=(qW (jE 6 (qv [.vl,.sl 1,.vl,.vl] QL (qd (qe 0) (jO (qd (qe 3) (qd (dC (.int 6)) qC))))))
  (sIf (jg (d2 Qv (qe 6) (qe 4))) (kD (zz 4 Qq (qe 6))) jN))
theorem xm (ns:List Int) (most:D) (hls:qfJ ls):∀ (ds:List D) (town:List D) (ws:List Str) (k u:Option D),town.length+8 * ds.length < 900->ws.length+ds.length<=100->ws.Nodup->(∀ w∈ws,qaO w) ->
  ∃ (town':List D) (ws':List Str) (k' u':Option D),town'.length<=town.length+8 * ds.length/\ws'.length<=ws.length+ds.length/\ws.length<=ws'.length/\(ds≠[]->1<=ws'.length)/\ws'.Nodup/\(∀ w∈ws',qaO w) /\
   vk (gNm 5) Zr ds [some (scr ns),some (.lst town),some most,some (.lst (ls.map D.str)),some (.lst (ws.map D.str)),k,u]=.ok (.nx,[some (scr ns),some (.lst town'),some most,some (.lst (ls.map D.str)),some (.lst (ws'.map D.str)),k',u'])
 | [],town,ws,k,u,_,_,hn,hw=>⟨town,ws,k,u,by simp,by simp,by simp,by simp,hn,hw,rfl⟩
 | d::ds,town,ws,k,u,ht,hl,hn,hw=>by
  rw [ao] at ht hl
  obtain ⟨w,t1,hW,ht1,hg⟩:=qcX ns town hls (by omega)
  have hb:=big
  have hz:ws.length < sizeLine:=by omega
  by_cases hm:w∈ws
  ·obtain ⟨town',ws',k',u',a1,a2,a3,a4,a5,a6,a7⟩:=xm ns most hls ds t1 ws (some d) (some (.str w)) (by omega) (by omega) hn hw
   refine ⟨town',ws',k',u',by rw [ao]; omega,by rw [ao]; omega,a3,fun _=>?_,a5,a6,?_⟩
   ·have:0 < ws.length:=cX hm
    omega
   ·rw [<-a7]
    simp [vk,Zr,qE,jl,hg,Qv,Uu,inD,yK,hm]
  ·obtain ⟨town',ws',k',u',a1,a2,a3,a4,a5,a6,a7⟩:=xm ns most hls ds t1 (ws++[w]) (some d) (some (.str w)) (by omega) (by rw [af]; simp; omega) (bV.mpr ⟨hn,by simp,fun a ha b hb=>by
    rw [au.mp hb]
    exact fun z=>hm (z ▸ ha)⟩) (fun x hx=>by
    rcases aj.mp hx with hx | hx
    ·exact hw x hx
    ·rw [au.mp hx]
     exact hW)
   rw [af] at a2 a3
   simp at a2 a3
   refine ⟨town',ws',k',u',by rw [ao]; omega,by rw [ao]; omega,by omega,fun _=>by omega,a5,a6,?_⟩
   rw [<-a7]
   simp [vk,Zr,qE,jl,hg,Qv,Uu,inD,yK,hm,wQ,Qq,hz]
noncomputable def LETS:List (List Str):=[["a", "b"],["a", "b", "c"],["a", "b", "c", "d"],["k", "m", "z", "a", "e"]]
theorem qcY:∀ ls∈LETS,qfJ ls:=by
 have h1:∀ ls∈LETS,∀ x∈ls,x∈(["a", "b", "c", "d", "k", "m", "z", "e"]:List Str):=by decide +kernel
 have h2:∀ ls∈LETS,ls≠[]:=by decide +kernel
 intro ls h
 refine ⟨h2 ls h,fun x hx=>?_⟩
 have h3:=h1 ls h x hx
 simp only [ac,bb,or_false] at h3
 rcases h3 with rfl | rfl | rfl | rfl | rfl | rfl | rfl | rfl
 ·exact ⟨97,by unfold az; decide,by decide +kernel⟩
 ·exact ⟨98,by unfold az; decide,by decide +kernel⟩
 ·exact ⟨99,by unfold az; decide,by decide +kernel⟩
 ·exact ⟨100,by unfold az; decide,by decide +kernel⟩
 ·exact ⟨107,by unfold az; decide,by decide +kernel⟩
 ·exact ⟨109,by unfold az; decide,by decide +kernel⟩
 ·exact ⟨122,by unfold az; decide,by decide +kernel⟩
 ·exact ⟨101,by unfold az; decide,by decide +kernel⟩
theorem qaP (ns:List Int) (town:List D) (ht:town.length < 700):∃ ws town',jo ws/\ws.length<=5/\town'.length<=town.length+50/\QN [scr ns,.lst town,.int 5]=.ok (.tup (ws.map D.str),[.non,.lst town',.non]):=by
 obtain ⟨d,hd,hp⟩:=VS ns town (LETS.map fun l=>.lst (l.map D.str)) (by simp [LETS]) (by omega)
 obtain ⟨ls,hls,rfl⟩:=ah.mp hd
 have hl:=qcY ls hls
 obtain ⟨r,r0,r1,hr⟩:=vg ns (town++[.int 0]) (many:=5) (by omega) (by rw [af]; simp; omega)
 have hlen:(xx 0 (1+r).toNat).length=(1+r).toNat:=by simp [xx]
 obtain ⟨town',ws',k',u',a1,a2,a3,a4,a5,a6,a7⟩:=xm ns (.int 5) hl (xx 0 (1+r).toNat) (town++[.int 0]++[.int 0]) [] none none (by rw [hlen,af,af]; simp; omega) (by rw [hlen]; simp; omega) cS (by simp)
 have hne:xx 0 (1+r).toNat≠[]:=fun z=>by
  rw [z] at hlen
  simp at hlen
  omega
 refine ⟨ws',town',⟨a4 hne,?_,a5,a6⟩,?_,?_,?_⟩
 ·rw [hlen] at a2
  simp at a2
  omega
 ·rw [hlen] at a2
  simp at a2
  omega
 ·rw [hlen,af,af] at a1
  simp at a1
  omega
 ·refine runD_ap.trans ?_
  have c1:-(2 ^ 62:Int)<=1+r/\1+r < 2 ^ 62:=by omega
  have hb:=big
  have hz:4<=sizeLine:=by omega
  simp only [aM,eT,bX,bT] at a7 hr
  simp only [LETS,aG,bT] at hp
  simp [QM,qy,qA,qE,jl,hp,hr,jw,kt,-Int.reducePow,c1,hz,a7,yt]
def Jx (p q:Int):Prop:=(-3<=p/\p<=2)/\-3<=q/\q<=2
theorem qcZ (ns:List Int) (town:List D) (ht:town.length < 900):∃ p q town',Jx p q/\town'.length=town.length+2/\VG [scr ns,.lst town]=.ok (.tup [.int p,.int q],[.non,.lst town']):=by
 obtain ⟨r,r0,r1,hr⟩:=vg ns town (many:=6) (by omega) (by omega)
 obtain ⟨u,u0,u1,hu⟩:=vg ns (town++[.int 0]) (many:=6) (by omega) (by rw [af]; simp; omega)
 have hb:=big
 have hz:2<=sizeLine:=by omega
 refine ⟨r - 3,u - 3,town++[.int 0,.int 0],⟨⟨by omega,by omega⟩,by omega,by omega⟩,by simp,?_⟩
 refine runD_ap.trans ?_
 simp only [aM,eT,bX] at hu
 simp [VF,qy,qA,qE,jl,hr,hu,Qi,vV,hz]
noncomputable def yL (n:Nat) (p:Int):Nat:=(max 0 (min (if 0<=p then p else (n:Int)+p) ((n:Int) - 1))).toNat
noncomputable def Yh (w:Str) (p:Int):Str:=⟨#[(w.cps.toList[yL w.length p]?).getD 0]⟩
variable {w:Str}
theorem xJ (hw:qaO w) (p:Int):vb [.str w,.int p]=.ok (.str (Yh w p),[.non,.non]):=by
 have h1:=hw.1
 have hn:(w.cps.toList.length:Int)=w.length:=by simp [gi]
 have key:∀ q:Int,q=(if 0<=p then p else (w.length:Int)+p)->atI w.cps.toList (if 0 < (if (w.length:Int) - 1 < q then (w.length:Int) - 1 else q) then (if (w.length:Int) - 1 < q then (w.length:Int) - 1 else q) else 0)=some ((w.cps.toList[yL w.length p]?).getD 0):=by
  intro q hq
  have e:(if 0 < (if (w.length:Int) - 1 < q then (w.length:Int) - 1 else q) then (if (w.length:Int) - 1 < q then (w.length:Int) - 1 else q) else 0)=(yL w.length p:Int):=by
   unfold yL
   rw [<-hq]
   have:1<=(w.length:Int):=by omega
   generalize (w.length:Int)=n at *
   split <;> split <;> omega
  have hl:yL w.length p < w.cps.toList.length:=by
   have hn':w.cps.toList.length=w.length:=by simp [gi]
   rw [hn']
   unfold yL
   omega
  rw [e,vD,aC hl]
  rfl
 refine runD_ap.trans ?_
 by_cases hp:0<=p
 ·have k:=key p (by rw [if_pos hp])
  simp [wl,qy,qA,geD,vV,hp,qbh,qfz,Qi,jI,ixD,k,Yh]
 ·have k:=key (w.length+p) (by rw [if_neg hp])
  simp [wl,qy,qA,geD,vV,hp,qbh,qfz,Qi,kt,jI,ixD,k,Yh]
theorem Zs (h:qaO w):(∃ a,w=⟨#[a]⟩)\/(∃ a b,w=⟨#[a,b]⟩)\/(∃ a b c,w=⟨#[a,b,c]⟩)\/(∃ a b c d,w=⟨#[a,b,c,d]⟩)\/(∃ a b c d e,w=⟨#[a,b,c,d,e]⟩)\/∃ a b c d e f,w=⟨#[a,b,c,d,e,f]⟩:=by
 obtain ⟨⟨l⟩⟩:=w
 have h1:1<=l.length:=h.1
 have h2:l.length<=6:=h.2.1
 match l,h1,h2 with
 | [a],_,_=>exact .inl ⟨a,rfl⟩
 | [a,b],_,_=>exact .inr (.inl ⟨a,b,rfl⟩)
 | [a,b,c],_,_=>exact .inr (.inr (.inl ⟨a,b,c,rfl⟩))
 | [a,b,c,d],_,_=>exact .inr (.inr (.inr (.inl ⟨a,b,c,d,rfl⟩)))
 | [a,b,c,d,e],_,_=>exact .inr (.inr (.inr (.inr (.inl ⟨a,b,c,d,e,rfl⟩))))
 | [a,b,c,d,e,f],_,_=>exact .inr (.inr (.inr (.inr (.inr ⟨a,b,c,d,e,f,rfl⟩))))
variable {p:Int}
theorem KC (hw:qaO w) (h0:-3<=p) (h1:p<=2):XY [.str w,.int p]=.ok (.str (Yh w p),[.non,.non]):=by
 have hp:p=-3\/p=-2\/p=-1\/p=0\/p=1\/p=2:=by omega
 rcases Zs hw with ⟨a,rfl⟩ | ⟨a,b,rfl⟩ | ⟨a,b,c,rfl⟩ | ⟨a,b,c,d,rfl⟩ | ⟨a,b,c,d,e,rfl⟩ | ⟨a,b,c,d,e,f,rfl⟩ <;> rcases hp with rfl | rfl | rfl | rfl | rfl | rfl <;> kernel_rfl
variable {own:List Nat}
theorem xn (ρc:Sl):∀ (cap:List Nat) (n:Nat) (ρ:Sl),(∀ k∈cap,k∉own)->jF own ρc n cap ρ=ρ
 | [],n,ρ,_=>rfl
 | k::cap,n,ρ,h=>by
  unfold jF
  rw [if_neg (h k (ai ..))]
  exact xn ρc cap (n+1) ρ fun x hx=>h x (aa _ hx)
variable {fe:Sl->Out (D×Sl)} {ft:Sl->Out (Bool×Sl)} {caps:Sl}
theorem qeR {P:D->Bool} {F:D->D}:∀ (ds:List D) (x:Option D),(∀ d∈ds,ft (some d::caps)=.ok (P d,some d::caps))->(∀ d∈ds,P d=true->fe (some d::caps)=.ok (F d,some d::caps))->∃ x',jx (gNm 0) ft fe ds (x::caps)=.ok ((ds.filter P).map F,x'::caps)
 | [],x,_,_=>⟨x,rfl⟩
 | d::ds,x,h,h'=>by
  obtain ⟨x',e⟩:=qeR ds (some d) (fun d' hd=>h d' (aa _ hd)) fun d' hd=>h' d' (aa _ hd)
  refine ⟨x',?_⟩
  have h1:=h d (ai ..)
  have h2:=h' d (ai ..)
  cases q:P d with
  | true=>simp [jx,ym,h1,q,h2 q,e]
  | false=>simp [jx,ym,h1,q,e]
variable {cap:List Nat} {fi:Sl->Out (List D×Sl)} {ρ ρ1:Sl} {ds:List D}
theorem qbs {fe:Sl->Out (D×Sl)} {ft:Sl->Out (Bool×Sl)} (P:D->Bool) (F:D->D) (ho:∀ k∈cap,k∉own) (h:fi ρ=.ok (ds,ρ1)) (hl:ds.length<=sizeLine)
  (ht:∀ d∈ds,ft (some d::cap.map fun k=>(ρ1[k]?).getD none)=.ok (P d,some d::cap.map fun k=>(ρ1[k]?).getD none)) (he:∀ d∈ds,P d=true->fe (some d::cap.map fun k=>(ρ1[k]?).getD none)=.ok (F d,some d::cap.map fun k=>(ρ1[k]?).getD none)) :
  jC own 1 cap fi (gNm 0) ft fe ρ=.ok (.lst ((ds.filter P).map F),ρ1):=by
 obtain ⟨x',e⟩:=qeR ds none ht he
 unfold jC
 rw [h]
 simp only [kz]
 rw [if_pos hl,show kJ 1 cap ρ1=none::cap.map fun k=>(ρ1[k]?).getD none from rfl,e]
 simp only [kz,xn _ _ _ _ ho]
theorem Zu (F:D->D) (ho:∀ k∈cap,k∉own) (h:fi ρ=.ok (ds,ρ1)) (hl:ds.length<=sizeLine) (ht:∀ d∈ds,fe (some d::cap.map fun k=>(ρ1[k]?).getD none)=.ok (F d,some d::cap.map fun k=>(ρ1[k]?).getD none)) :
  jC own 1 cap fi (gNm 0) ftT fe ρ=.ok (.lst (ds.map F),ρ1):=by
 have e:=qbs (ft:=ftT) (fun _=>true) F ho h hl (fun _ _=>rfl) fun d hd _=>ht d hd
 rw [eh.mpr fun _ _=>rfl] at e
 exact e
theorem xK (F:D->D) (h:fi ρ=.ok (ds,ρ1)) (hl:ds.length<=sizeLine) (ht:∀ d∈ds,fe (some d::cap.map fun k=>(ρ1[k]?).getD none)=.ok (F d,some d::cap.map fun k=>(ρ1[k]?).getD none)) :
  jC [] 1 cap fi (gNm 0) ftT fe ρ=.ok (.lst (ds.map F),ρ1):=Zu F (fun _ _=>by simp) h hl ht
theorem qbt {P:D×D->Bool} {F:D×D->D}:∀ (ps:List (D×D)) (x y:Option D),(∀ p∈ps,ft (some p.1::some p.2::caps)=.ok (P p,some p.1::some p.2::caps))->(∀ p∈ps,P p=true->fe (some p.1::some p.2::caps)=.ok (F p,some p.1::some p.2::caps)) ->
  ∃ x' y',jx (kg 2 (qH (gNm 0) (qH (gNm 1) kf))) ft fe (ps.map fun p=>.tup [p.1,p.2]) (x::y::caps)=.ok ((ps.filter P).map F,x'::y'::caps)
 | [],x,y,_,_=>⟨x,y,rfl⟩
 | p::ps,x,y,h,h'=>by
  obtain ⟨x',y',e⟩:=qbt ps (some p.1) (some p.2) (fun d' hd=>h d' (aa _ hd)) fun d' hd=>h' d' (aa _ hd)
  refine ⟨x',y',?_⟩
  have h1:=h p (ai ..)
  have h2:=h' p (ai ..)
  cases q:P p with
  | true=>simp [jx,ym,kg,qH,kf,h1,q,h2 q,e]
  | false=>simp [jx,ym,kg,qH,kf,h1,q,e]
theorem qc0 {fe:Sl->Out (D×Sl)} {ft:Sl->Out (Bool×Sl)} {ps:List (D×D)} (P:D×D->Bool) (F:D×D->D) (ho:∀ k∈cap,k∉own) (h:fi ρ=.ok (ps.map fun p=>.tup [p.1,p.2],ρ1)) (hl:ps.length<=sizeLine)
  (ht:∀ p∈ps,ft (some p.1::some p.2::cap.map fun k=>(ρ1[k]?).getD none)=.ok (P p,some p.1::some p.2::cap.map fun k=>(ρ1[k]?).getD none))
  (he:∀ p∈ps,P p=true->fe (some p.1::some p.2::cap.map fun k=>(ρ1[k]?).getD none)=.ok (F p,some p.1::some p.2::cap.map fun k=>(ρ1[k]?).getD none)) :
  jC own 2 cap fi (kg 2 (qH (gNm 0) (qH (gNm 1) kf))) ft fe ρ=.ok (.lst ((ps.filter P).map F),ρ1):=by
 obtain ⟨x',y',e⟩:=qbt ps none none ht he
 unfold jC
 rw [h]
 simp only [kz]
 rw [if_pos (by rw [ay]; exact hl),show kJ 2 cap ρ1=none::none::cap.map fun k=>(ρ1[k]?).getD none from rfl,e]
 simp only [kz,xn _ _ _ _ ho]
noncomputable def qu (ws:List Str) (p q:Int):List (Str×Str):=ws.map fun w=>(Yh w p,Yh w q)
noncomputable def kA (l:List (Str×Str)):List D:=l.map fun x=>.tup [.str x.1,.str x.2]
variable {n:Nat}
theorem jj (h:n<=2000):n<=sizeLine:=be h big
abbrev Wd (ws:List Str):D:=.tup (ws.map D.str)
abbrev Ld (p q:Int):D:=.tup [.int p,.int q]
variable {G:List D->Out (D×List D)} {ws:List Str} {q:Int}
theorem gZ (hw:jo ws) (hG:∀ w∈ws,G [.str w,.int p]=.ok (.str (Yh w p),[.non,.non])/\G [.str w,.int q]=.ok (.str (Yh w q),[.non,.non])) :
  jC [] 1 [1] (kG (qe 0)) (gNm 0) ftT (vj (qd (qv [.vl,.vl] G (qd (qe 0) (qd (d2 ixD (qe 1) (dC (.int 0))) qC))) (qd (qv [.vl,.vl] G (qd (qe 0) (qd (d2 ixD (qe 1) (dC (.int 1))) qC))) qC))) [some (Wd ws),some (Ld p q)]
   = .ok (.lst (kA (qu ws p q)),[some (Wd ws),some (Ld p q)]):=by
 have e:=xK (cap:=[1]) (fi:=kG (qe 0)) (ρ:=[some (Wd ws),some (Ld p q)]) (ρ1:=[some (Wd ws),some (Ld p q)]) (ds:=ws.map D.str)
  (fe:=(vj (qd (qv [.vl,.vl] G (qd (qe 0) (qd (d2 ixD (qe 1) (dC (.int 0))) qC))) (qd (qv [.vl,.vl] G (qd (qe 0) (qd (d2 ixD (qe 1) (dC (.int 1))) qC))) qC))))
  (fun d=>match d with | .str w=>.tup [.str (Yh w p),.str (Yh w q)] | d=>d) (by simp [jK]) (by rw [ay]; exact jj (by have:=hw.2.1; omega)) (fun d hd=>by
   obtain ⟨w,hm,rfl⟩:=ah.mp hd
   obtain ⟨h1,h2⟩:=hG w hm
   have hz:2<=sizeLine:=jj (by omega)
   simp [qE,jl,ixD,atI,ixN,h1,h2,hz])
 rw [e]
 simp [kA,qu]
theorem gj (hw:jo ws) (hl:Jx p q):zO [Wd ws,Ld p q]=.ok (.lst (kA (qu ws p q)),[.non,.non]):=by
 refine runD_ap.trans ?_
 have e:=gZ (G:=XY) hw (p:=p) (q:=q) fun w hm=>⟨KC (hw.2.2.2 w hm) hl.1.1 hl.1.2,KC (hw.2.2.2 w hm) hl.2.1 hl.2.2⟩
 unfold VC
 rw [zK,show qy QJ [Wd ws,Ld p q]=[some (Wd ws),some (Ld p q)] from rfl,e]
 rfl
def Pl:D->Prop
 | .raw _=>False
 | .xcp _=>False
 | .ins _ _=>False
 | .dct _=>False
 | .at_ _ _=>False
 | _=>True
@[simp] theorem kk1:ko "NoneType" "int"=some false:=by decide +kernel
@[simp] theorem kk2:ko "bool" "int"=some true:=by decide +kernel
@[simp] theorem kk3:ko "int" "int"=some true:=by decide +kernel
@[simp] theorem kk4:ko "str" "int"=some false:=by decide +kernel
@[simp] theorem kk5:ko "tuple" "int"=some false:=by decide +kernel
@[simp] theorem kk6:ko "list" "int"=some false:=by decide +kernel
@[simp] theorem kb1:ko "NoneType" "bool"=some false:=by decide +kernel
@[simp] theorem kb2:ko "bool" "bool"=some true:=by decide +kernel
@[simp] theorem kb3:ko "int" "bool"=some false:=by decide +kernel
@[simp] theorem kb4:ko "str" "bool"=some false:=by decide +kernel
@[simp] theorem kb5:ko "tuple" "bool"=some false:=by decide +kernel
@[simp] theorem kb6:ko "list" "bool"=some false:=by decide +kernel
@[simp] theorem ks1:ko "NoneType" "str"=some false:=by decide +kernel
@[simp] theorem ks2:ko "bool" "str"=some false:=by decide +kernel
@[simp] theorem ks3:ko "int" "str"=some false:=by decide +kernel
@[simp] theorem ks4:ko "str" "str"=some true:=by decide +kernel
@[simp] theorem ks5:ko "tuple" "str"=some false:=by decide +kernel
@[simp] theorem ks6:ko "list" "str"=some false:=by decide +kernel
@[simp] theorem kt1:ko "NoneType" "tuple"=some false:=by decide +kernel
@[simp] theorem kt2:ko "bool" "tuple"=some false:=by decide +kernel
@[simp] theorem kt3:ko "int" "tuple"=some false:=by decide +kernel
@[simp] theorem kt4:ko "str" "tuple"=some false:=by decide +kernel
@[simp] theorem kt5:ko "tuple" "tuple"=some true:=by decide +kernel
@[simp] theorem kt6:ko "list" "tuple"=some false:=by decide +kernel
noncomputable def qc1:D->Bool
 | .tup _=>true
 | _=>false
noncomputable def isInt:D->Bool
 | .int _=>true
 | .bl _=>true
 | _=>false
variable {d:D}
theorem qeS (h:Pl d):gx "tuple" d=.ok (.bl (qc1 d)):=by cases d <;> first | exact h.elim | simp [gx,tyN,qc1]
noncomputable def qbu:D->Bool
 | .str x=>decide (x.length=1)&&(!uN x "a"&&!uN "z" x)
 | _=>false
noncomputable def Qa (lo hi:Int):D->Bool
 | .int i=>decide (lo<=i)&&decide (i<=hi)
 | _=>false
theorem KD (h:Pl d):wf [d]=.ok (.bl (qbu d),[.non]):=by
 refine runD_ap.trans ?_
 cases d <;> first
  | exact h.elim
  | (simp [va,qy,qA,gx,tyN,qbu]; done)
  | skip
 rename_i x
 by_cases h1:x.length=1
 ·have h1':(x.length:Int)=1:=by omega
  cases h2:uN x "a" <;> simp [va,qy,gx,tyN,jI,eqD,eqN,eqS,leD,qA,qbu,h1,h1',h2]
 ·have h1':¬(x.length:Int)=1:=by omega
  simp [va,qy,gx,tyN,jI,eqD,eqN,eqS,leD,qA,qbu,h1,h1']
theorem jD (h:Pl d) (lo hi:Int):js [d,.int lo,.int hi]=.ok (.bl (Qa lo hi d),[.non,.non,.non]):=by
 refine runD_ap.trans ?_
 cases d <;> first
  | exact h.elim
  | (simp [vp,qy,qA,gx,tyN,Qa,yg]; done)
  | skip
 rename_i i
 by_cases h1:lo<=i <;> simp [vp,qy,gx,tyN,leD,qA,Qa,yg,h1]
theorem qeT {c:Nat} (h:az c):qbu (.str ⟨#[c]⟩)=true:=by
 have ha:(aV "a").cps.toList=[97]:=by decide +kernel
 have hz:(aV "z").cps.toList=[122]:=by decide +kernel
 obtain ⟨h1,h2⟩:=h
 have l1:¬([c]:List Nat) < [97]:=by
  rw [List.cons_lt_cons_iff]
  simp
  omega
 have l2:¬([122]:List Nat) < [c]:=by
  rw [List.cons_lt_cons_iff]
  simp
  omega
 have e1:uN ⟨#[c]⟩ (aV "a")=false:=by
  unfold uN
  rw [ha]
  exact decide_eq_false l1
 have e2:uN (aV "z") ⟨#[c]⟩=false:=by
  unfold uN
  rw [hz]
  exact decide_eq_false l2
 simp [qbu,gi,e1,e2]
theorem Qb (f:α->Bool):∀ l:List α,vI (l.map fun x=>.bl (f x))=some (l.map f)
 | []=>rfl
 | a::l=>by
  have ih:=Qb f l
  simp [vI,ih]
theorem Jk (f:α->Bool) (l:List α):GT (.lst (l.map fun x=>.bl (f x)))=.ok (.bl (l.all f)):=by
 simp only [GT,Qb]
 simp [List.all_map,Function.comp_def]
theorem Zv (hw:qaO w) (p:Int):∃ c,az c/\Yh w p=⟨#[c]⟩:=by
 have hn:w.cps.toList.length=w.length:=by simp [gi]
 have hl:yL w.length p < w.cps.toList.length:=by
  have:=hw.1
  rw [hn]
  unfold yL
  omega
 refine ⟨w.cps.toList[yL w.length p],hw.2.2 _ (ce hl),?_⟩
 unfold Yh
 rw [aC hl]
 rfl
theorem UY (hw:qaO w):yA [.str w]=.ok (.bl true,[.non]):=by
 refine runD_ap.trans ?_
 have e:=xK (cap:=[]) (fi:=kG (qe 0)) (ρ:=[some (.str w)]) (ρ1:=[some (.str w)]) (ds:=JY w) (fe:=qv [.vl] wf (qd (qe 0) qC)) (fun d=>.bl (qbu d)) (by simp [jK]) (by
   have:=hw.2.1
   simp [JY,<-gi]
   exact jj (by omega)) (fun d hd=>by
   obtain ⟨c,hc,rfl⟩:=ah.mp hd
   have h1:=KD (d:=.str ⟨#[c]⟩) trivial
   simp [qE,jl,h1])
 have ha:(JY w).all qbu=true:=by
  rw [ba]
  intro d hd
  obtain ⟨c,hc,rfl⟩:=ah.mp hd
  exact qeT (hw.2.2 c hc)
 have h1:(1:Int)<=w.length:=by have:=hw.1; omega
 have h6:(w.length:Int)<=6:=by have:=hw.2.1; omega
 simp only [zS,qy,aG,bT,ao,bv,Nat.reduceAdd,et,cP,aY]
 simp [gx,tyN,yg,jI,leD,h1,h6,e,Jk,ha,qA]
theorem gk:∀ (ws ks:List Str),ws.Nodup->(∀ x∈ws,x∉ks)->ws.foldl vi ks=ks++ws
 | [],ks,_,_=>by simp
 | w::ws,ks,hn,hd=>by
  have h1:=aI.mp hn
  rw [bW,show vi ks w=ks++[w] from if_neg (hd w (ai ..)),gk ws (ks++[w]) h1.2 ?_]
  ·simp
  ·intro x hx z
   rcases aj.mp z with z | z
   ·exact hd x (aa _ hx) z
   ·rw [au.mp z] at hx
    exact h1.1 hx
theorem yM (ws:List Str):∀ ks:List Str,ks.Nodup->(ws.foldl vi ks).Nodup/\∀ x,x∈ws.foldl vi ks↔x∈ks\/x∈ws:=by
 induction ws with
 | nil=>intro ks hn; exact ⟨hn,fun x=>by simp⟩
 | cons w ws ih=>
  intro ks hn
  have hn2:(vi ks w).Nodup:=by
   unfold vi
   split
   ·exact hn
   ·rename_i h
    exact bV.mpr ⟨hn,by simp,fun a ha b hb=>by
     rw [au.mp hb]
     exact fun z=>h (z ▸ ha)⟩
  obtain ⟨a,b⟩:=ih (vi ks w) hn2
  refine ⟨a,fun x=>?_⟩
  rw [bW,b x]
  unfold vi
  split
  ·rename_i h
   constructor
   ·rintro (q | q)
    ·exact .inl q
    ·exact .inr (aa _ q)
   ·rintro (q | q)
    ·exact .inl q
    ·rcases ac.mp q with rfl | q
     ·exact .inl h
     ·exact .inr q
  ·simp [aj,or_assoc]
theorem VT (hw:jo ws):xc [.tup (ws.map D.str)]=.ok (.bl true,[.non]):=by
 refine runD_ap.trans ?_
 have e:=xK (cap:=[]) (fi:=kG (qe 0)) (ρ:=[some (.tup (ws.map D.str))]) (ρ1:=[some (.tup (ws.map D.str))]) (ds:=ws.map D.str) (fe:=qv [.vl] yA (qd (qe 0) qC)) (fun d=>.bl true) (by simp [jK]) (by
   rw [ay]
   exact jj (by have:=hw.2.1; omega)) (fun d hd=>by
   obtain ⟨w,hm,rfl⟩:=ah.mp hd
   have h1:=UY (hw.2.2.2 w hm)
   simp [qE,jl,h1])
 have h1:(1:Int)<=ws.length:=by have:=hw.1; omega
 have h6:(ws.length:Int)<=6:=by have:=hw.2.1; omega
 have hf:ws.foldl vi []=ws:=by rw [gk ws [] hw.2.2.1 (by simp)]; simp
 have h4:ws.length < 4000:=by omega
 have ha:=Jk (fun _:D=>true) (ws.map D.str)
 simp only [xb,qy,aG,bT,ao,bv,Nat.reduceAdd,et,cP,aY]
 simp [-bD,gx,tyN,yg,jI,leD,h1,h6,e,ha,qA,Qz,xA,uh,hf,h4,eqD,eqN,eqS]
theorem gI (hw:jo ws):wj [.tup (ws.map D.str)]=.ok (.non,[.non]):=by
 refine runD_ap.trans ?_
 have h:=VT hw
 simp [wg,qy,qA,qE,jl,h,yg]
theorem UZ (hl:Jx p q):zW [.tup [.int p,.int q]]=.ok (.bl true,[.non]):=by
 refine runD_ap.trans ?_
 have e:=xK (cap:=[]) (fi:=kG (qe 0)) (ρ:=[some (.tup [.int p,.int q])]) (ρ1:=[some (.tup [.int p,.int q])]) (ds:=[.int p,.int q]) (fe:=qv [.vl,.vl,.vl] js (qd (qe 0) (qd (dC (.int (-3))) (qd (dC (.int 2)) qC)))) (fun d=>.bl (Qa (-3) 2 d)) (by simp [jK]) (jj (by simp)) (fun d hd=>by
   have hd:d=.int p\/d=.int q:=by simpa using hd
   have h1:=jD (d:=.int p) trivial (-3) 2
   have h2:=jD (d:=.int q) trivial (-3) 2
   rcases hd with rfl | rfl
   ·simp [qE,jl,h1]
   ·simp [qE,jl,h2])
 have b1:Qa (-3) 2 (.int p)=true:=by simp [Qa]; exact hl.1
 have b2:Qa (-3) 2 (.int q)=true:=by simp [Qa]; exact hl.2
 simp only [zV,qy,aG,bT,ao,bv,Nat.reduceAdd,et,cP,aY]
 simp [gx,tyN,yg,jI,neD,eqN,eqS,e,GT,vI,b1,b2,qA]
theorem Jl (hl:Jx p q):wT [.tup [.int p,.int q]]=.ok (.non,[.non]):=by
 refine runD_ap.trans ?_
 have h:=UZ hl
 simp [wS,qy,qA,qE,jl,h,yg]
theorem qaQ (hw:jo ws) (hl:Jx p q):uU [Wd ws,Ld p q]=.ok (.lst (kA (qu ws p q)),[.non,.non]):=by
 refine runD_ap.trans ?_
 have e:=gZ (G:=vb) hw (p:=p) (q:=q) fun w hm=>⟨xJ (hw.2.2.2 w hm) p,xJ (hw.2.2.2 w hm) q⟩
 have c1:=gI hw
 have c2:=Jl hl
 simp only [VO,qy,aG,bT,ao,bv,Nat.reduceAdd,et,cP,aY]
 simp [qE,jl,c1,c2,e,qA]
theorem KG {a b:List Str} (ha:a.Nodup) (hb:b.Nodup) (h:∀ x,x∈a↔x∈b):a.Perm b:=(List.perm_ext_iff_of_nodup ha hb).mpr h
theorem Zw {a b:List Str} (h:∀ x,x∈a↔x∈b):jX (a.foldl vi [])=jX (b.foldl vi []):=by
 obtain ⟨n1,m1⟩:=yM a [] cS
 obtain ⟨n2,m2⟩:=yM b [] cS
 have p:=KG n1 n2 fun x=>by
  rw [m1,m2,h]
 exact yw ((qR _).trans (p.trans (qR _).symm)) (ji _) (ji _)
noncomputable def LS (l:List (Str×Str)):List Str:=jX ((l.map (·.1)++l.map (·.2)).foldl vi [])
variable {x:Str}
theorem mem_LS {l:List (Str×Str)}:x∈LS l↔∃ p∈l,x=p.1\/x=p.2:=by
 unfold LS
 rw [(qR _).mem_iff,(yM _ [] cS).2]
 simp only [bb,false_or,aj,ah]
 constructor
 ·rintro (⟨p,hp,rfl⟩ | ⟨p,hp,rfl⟩)
  ·exact ⟨p,hp,.inl rfl⟩
  ·exact ⟨p,hp,.inr rfl⟩
 ·rintro ⟨p,hp,rfl | rfl⟩
  ·exact .inl ⟨p,hp,rfl⟩
  ·exact .inr ⟨p,hp,rfl⟩
theorem Jm {l:List (Str×Str)} (hl:l.length<=20):vw [.lst (kA l)]=.ok (.lst ((LS l).map D.str),[.non]):=by
 refine runD_ap.trans ?_
 have hz:(kA l).length<=sizeLine:=by
  unfold kA
  rw [ay]
  exact jj (by omega)
 have e1:=xK (cap:=[]) (fi:=kG (qe 0)) (ρ:=[some (.lst (kA l))]) (ρ1:=[some (.lst (kA l))]) (ds:=kA l) (fe:=d2 ixD (qe 0) (dC (.int 0))) (fun d=>match d with | .tup [a,b]=>a | d=>d) (by simp [jK]) hz (fun d hd=>by
   obtain ⟨x,hx,rfl⟩:=ah.mp hd
   simp [ixD,atI,ixN])
 have e2:=xK (cap:=[]) (fi:=kG (qe 0)) (ρ:=[some (.lst (kA l))]) (ρ1:=[some (.lst (kA l))]) (ds:=kA l) (fe:=d2 ixD (qe 0) (dC (.int 1))) (fun d=>match d with | .tup [a,b]=>b | d=>d) (by simp [jK]) hz (fun d hd=>by
   obtain ⟨x,hx,rfl⟩:=ah.mp hd
   simp [ixD,atI,ixN])
 have f1:(kA l).map (fun d=>match d with | .tup [a,b]=>a | d=>d)=(l.map (·.1)).map D.str:=by simp [kA]
 have f2:(kA l).map (fun d=>match d with | .tup [a,b]=>b | d=>d)=(l.map (·.2)).map D.str:=by simp [kA]
 rw [f1] at e1
 rw [f2] at e2
 have hs:l.length+l.length<=sizeLine:=jj (by omega)
 have h64:l.length+l.length < 64:=by omega
 simp only [wU,qy,aG,bT,ao,bv,Nat.reduceAdd,et,cP,aY,zK,UK,qgt,e1,e2,kz]
 simp only [kt,ay,if_pos hs,qgp,kz,<-cu,uq,xA,uh,af,if_pos h64]
 simp [qA,LS]
theorem Ub:∀ l:List (Str×Str),(l.flatMap fun p=>[p.1,p.2]).length=2 * l.length
 | []=>rfl
 | a::l=>by
  rw [df,af,Ub l,ao]
  simp
  omega
variable {a:D}
theorem at0 {l:List D}:atI (a::l) 0=some a:=by
 have:=vD (a::l) 0
 simpa using this
variable {b:D}
theorem at1 {l:List D}:atI (a::b::l) 1=some b:=by
 have:=vD (a::b::l) 1
 simpa using this
noncomputable def prL (l:List (Str×Int)):List D:=l.map fun x=>.tup [.str x.1,.int x.2]
noncomputable def qU (l:List (Str×Int)):List Str:=l.map (·.1)
noncomputable def bk (l:List (Str×Int)):List (Key×D):=l.map fun x=>(.inr x.1,.int x.2)
theorem gl:∀ l:List (Str×Int),uE (prL l)=some (bk l)
 | []=>rfl
 | x::l=>by
  have ih:=gl l
  unfold prL at ih ⊢
  rw [aG]
  simp [uE,qac,Qr,ih,bk]
theorem VU:∀ (l:List (Str×Int)) (a:List (Key×D)),(qU l).Nodup->(∀ x∈l,∀ p∈a,p.1≠.inr x.1)->(bk l).foldl (fun a p=>Jz a p.1 p.2) a=a++bk l
 | [],a,_,_=>by simp [bk]
 | x::l,a,hn,hd=>by
  have h1:=aI.mp (show (x.1::qU l).Nodup from hn)
  have hp:Jz a (.inr x.1) (.int x.2)=a++[(.inr x.1,.int x.2)]:=by
   unfold Jz
   rw [if_neg]
   simp only [List.any_eq_true,decide_eq_true_eq,not_exists,not_and]
   exact fun p hp=>hd x (ai ..) p hp
  have ih:=VU l (a++[(.inr x.1,.int x.2)]) h1.2 (fun y hy p hp=>by
   rcases aj.mp hp with hp | hp
   ·exact hd y (aa _ hy) p hp
   ·rw [au.mp hp]
    intro z
    have z:x.1=y.1:=bj.inj z
    exact h1.1 (z ▸ ah.mpr ⟨y,hy,rfl⟩))
  show ((bk l).foldl (fun a p=>Jz a p.1 p.2) (Jz a (.inr x.1) (.int x.2)))=a++(.inr x.1,.int x.2)::bk l
  rw [hp,ih]
  simp
variable {l:List (Str×Int)}
theorem qc2 (h:(qU l).Nodup):UE (.tup (prL l))=.ok (.dct (bk l)):=by
 have e:=VU l [] h (fun _ _ p hp=>by cases hp)
 simp at e
 simp [UE,gl,e]
noncomputable def jq (l:List (Str×Int)) (x:Str):Int:=((l.find? fun y=>decide (y.1=x)).map (·.2)).getD 0
theorem kE:∀ {l:List (Str×Int)} {x:Str},x∈qU l->(x,jq l x)∈l/\(bk l).find? (fun kv=>decide (kv.1=bj x))=some (.inr x,.int (jq l x))
 | [],x,h=>by cases h
 | a::l,x,h=>by
  by_cases e:a.1=x
  ·have hv:jq (a::l) x=a.2:=by simp [jq,e]
   rw [hv]
   refine ⟨?_,?_⟩
   ·rw [<-e]
    exact ai ..
   ·simp [bk,e]
  ·have hx:x∈qU l:=by
    rcases ac.mp (show x∈a.1::qU l from h) with z | z
    ·exact absurd z.symm e
    ·exact z
   obtain ⟨h1,h2⟩:=kE hx
   have hv:jq (a::l) x=jq l x:=by simp [jq,e]
   rw [hv]
   refine ⟨aa _ h1,?_⟩
   rw [<-h2]
   simp [bk,e]
theorem qc3 (h:x∈qU l):ixD (.dct (bk l)) (.str x)=.ok (.int (jq l x)):=by
 simp [ixD,(kE h).2]
theorem Jn (h:Pl d):ua [d]=if Qa 1 99 d=true then .ok (.non,[.non]) else .exc "NoRoom" [some .non]:=by
 refine runD_ap.trans ?_
 have h1:=jD h 1 99
 have hz:1<=sizeLine:=jj (by omega)
 cases e:Qa 1 99 d <;> simp [wZ,qy,qA,qE,jl,h1,e,yg,wN]
noncomputable def qeU (l:List (Str×Int)) (s:List (Str×Str)) (r:Int):List D:=s.map fun x=>.int ((jq l x.1+jq l x.2) % r)
theorem qF {ms:List PM} {f g:Sl->Out (Fl×Sl)} (h:f ρ=.ok (.nx,ρ1)):Yg ms (qW f g ρ)=Yg ms (g ρ1):=by
 rw [Vu,h]
 rfl
abbrev qeV:Sl->Out (Fl×Sl):=(kD (zz 2 Xk (d1 UC (qe 3))))
theorem KH (a b:Option D):∀ (l:List (Str×Str)) (made:List Str) (x:Option D),made.length+2 * l.length<=1000->∃ x',vk (gNm 3) qeV (kA l) [a,b,some (.lst (made.map D.str)),x]=.ok (.nx,[a,b,some (.lst ((made++l.flatMap fun p=>[p.1,p.2]).map D.str)),x'])
 | [],made,x,_=>⟨x,by simp [kA,vk]⟩
 | p::l,made,x,h=>by
  rw [ao] at h
  obtain ⟨x',e⟩:=KH a b l (made++[p.1,p.2]) (some (.tup [.str p.1,.str p.2])) (by rw [af]; simp; omega)
  refine ⟨x',?_⟩
  have hz:2<=sizeLine:=jj (by omega)
  have hz2:made.length+2<=sizeLine:=jj (by omega)
  rw [show (made++(p::l).flatMap fun p=>[p.1,p.2])=(made++[p.1,p.2])++l.flatMap fun p=>[p.1,p.2] by simp,<-e]
  simp [kA,vk,qeV,wQ,Xk,UC,hz,hz2]
theorem uJ (hw:jo ws) (hl:Jx p q):kR [Wd ws,Ld p q]=.ok (.lst ((LS (qu ws p q)).map D.str),[.non,.non]):=by
 refine runD_ap.trans ?_
 have h1:=gj hw hl
 have hn:(qu ws p q).length<=6:=by simp [qu]; exact hw.2.1
 obtain ⟨x',e⟩:=KH (some (Wd ws)) (some (Ld p q)) (qu ws p q) [] none (by simp; omega)
 have hf:((qu ws p q).flatMap fun p=>[p.1,p.2]).length < 64:=by
  rw [Ub]
  omega
 have hs:jX (((qu ws p q).flatMap fun p=>[p.1,p.2]).foldl vi [])=LS (qu ws p q):=Zw fun x=>by
  simp only [eU,aj,ah,ac,bb,or_false]
  constructor
  ·rintro ⟨p,hp,rfl | rfl⟩
   ·exact .inl ⟨p,hp,rfl⟩
   ·exact .inr ⟨p,hp,rfl⟩
  ·rintro (⟨p,hp,rfl⟩ | ⟨p,hp,rfl⟩)
   ·exact ⟨p,hp,.inl rfl⟩
   ·exact ⟨p,hp,.inr rfl⟩
 simp only [bT,bX] at e
 simp [yY,qy,qA,qE,jl,h1,jK]
 rw [e]
 simp only [kz,UK,XC,dN,dO,uq,xA,uh,if_pos hf,hs]
 simp [qA]
variable {r:Int}
theorem KI (hw:jo ws) (hl:Jx p q) (hr:0 < r) (hk:∀ x∈LS (qu ws p q),x∈qU l):XZ [Wd ws,Ld p q,.int r,.dct (bk l)]=.ok (.tup (qeU l (qu ws p q) r),[.non,.non,.non,.non]):=by
 refine runD_ap.trans ?_
 have h1:=gj hw hl
 have hn:(qu ws p q).length<=6:=by simp [qu]; exact hw.2.1
 have e:=qc0 (own:=[]) (cap:=[2,3]) (fi:=kG (qv [.vl,.vl] zO (qd (qe 0) (qd (qe 1) qC)))) (ft:=ftT) (fe:=d2 vW (d2 kt (d2 ixD (qe 3) (qe 0)) (d2 ixD (qe 3) (qe 1))) (qe 2))
  (ρ:=[some (Wd ws),some (Ld p q),some (.int r),some (.dct (bk l))]) (ρ1:=[some (Wd ws),some (Ld p q),some (.int r),some (.dct (bk l))]) (ps:=(qu ws p q).map fun x=>(.str x.1,.str x.2)) (fun _=>true) (fun d=>match d with | (.str a,.str b)=>.int ((jq l a+jq l b) % r) | _=>.non) (by simp)
  (by simp [qE,jl,h1,jK,kA]) (by rw [ay]; exact jj (by omega)) (fun _ _=>rfl) (fun d hd _=>by
   obtain ⟨x,hx,rfl⟩:=ah.mp hd
   have j1:=qc3 (hk x.1 (mem_LS.mpr ⟨x,hx,.inl rfl⟩))
   have j2:=qc3 (hk x.2 (mem_LS.mpr ⟨x,hx,.inr rfl⟩))
   simp [j1,j2,kt,vW,vV,hr])
 rw [eh.mpr (fun _ _=>rfl)] at e
 have f:((qu ws p q).map fun x=>(D.str x.1,D.str x.2)).map (fun d=>match d with | (.str a,.str b)=>.int ((jq l a+jq l b) % r) | _=>.non)=qeU l (qu ws p q) r:=by simp [qeU]
 rw [f] at e
 unfold qcP
 rw [zK,UK,show qy qaD [Wd ws,Ld p q,.int r,.dct (bk l)]=[some (Wd ws),some (Ld p q),some (.int r),some (.dct (bk l))] from rfl,e]
 simp [yt,qA]
theorem Qc (ns:List Int) {room:Int} (hr:0 < room):∀ (Ls:List Str) (town:List D) (x:Option D),town.length+Ls.length < 1000 ->
  ∃ (es:List (Str×Int)) (town':List D) (x':Option D),qU es=Ls/\(∀ e∈es,0<=e.2/\e.2 < room)/\town'.length=town.length+Ls.length /\
   jx (gNm 0) ftT (vj (qd (qe 0) (qd (qv [.vl,.sl 2,.vl] jv (qd (qe 1) (jO (qd (qe 3) qC)))) qC))) (Ls.map D.str) [x,some (scr ns),some (.lst town),some (.int room)]=.ok (prL es,[x',some (scr ns),some (.lst town'),some (.int room)])
 | [],town,x,_=>⟨[],town,x,rfl,by simp,by simp,rfl⟩
 | a::Ls,town,x,h=>by
  rw [ao] at h
  obtain ⟨r,r0,r1,hd⟩:=vg ns town (many:=room) hr (by omega)
  obtain ⟨es,town',x',a1,a0,a2,a3⟩:=Qc ns hr Ls (town++[.int 0]) (some (.str a)) (by rw [af]; simp; omega)
  have z2:2<=sizeLine:=jj (by omega)
  refine ⟨(a,r)::es,town',x',by simp [qU] at a1 ⊢; exact a1,fun e he=>?_,by rw [a2,af]; simp; omega,?_⟩
  ·rcases ac.mp he with rfl | he
   ·exact ⟨r0,r1⟩
   ·exact a0 e he
  ·simp [jx,ym,qE,jl,hd,z2,a3,prL]
theorem Zx (hw:jo ws) (p q:Int):(LS (qu ws p q)).length<=12:=by
 have hs:(qu ws p q).length<=6:=by simp [qu]; exact hw.2.1
 unfold LS
 rw [(qR _).length_eq]
 have:=yv ((qu ws p q).map (·.1)++(qu ws p q).map (·.2)) []
 simp only [af,ay,bv] at this
 omega
theorem qgF (hw:jo ws) (p q:Int):∀ x∈LS (qu ws p q),∃ c,az c/\x=⟨#[c]⟩:=fun x hx=>by
 obtain ⟨y,hy,h⟩:=mem_LS.mp hx
 obtain ⟨w,hm,rfl⟩:=ah.mp hy
 rcases h with rfl | rfl
 ·exact Zv (hw.2.2.2 w hm) p
 ·exact Zv (hw.2.2.2 w hm) q
abbrev Pr:=Str×Str
abbrev Wk:=List Nat
noncomputable def inL (l:Wk):List D:=l.map fun (k:Nat)=>.int (k:Nat)
abbrev lD (l:Wk):D:=.lst (inL l)
abbrev nD (ns:List Int):D:=.tup (ns.map D.int)
abbrev pD (p:Pr):D:=.tup [.str p.1,.str p.2]
noncomputable def nI (ns:List Int) (k:Nat):Int:=(ns[k]?).getD 0
variable {ns:List Int}
theorem qeW {k:Nat} (h:k < ns.length):ixD (nD ns) (.int (k:Nat))=.ok (.int (nI ns k)):=by
 unfold ixD nI
 simp only []
 rw [vD,aF,aC h]
 rfl
noncomputable def qN (ns:List Int) (t:Int) (l:Wk):Int:=l.foldl (fun a k=>nI ns k - a) t
def qc4 (nd:D) (ns:List Int):Prop:=∀ k:Nat,k < ns.length->ixD nd (.int (k:Nat))=.ok (.int (nI ns k))
theorem Zy (ns:List Int):qc4 (nD ns) ns:=fun _ h=>qeW h
theorem qeX (ns:List Int):qc4 (.lst (ns.map D.int)) ns:=fun k h=>by
 unfold ixD nI
 simp only []
 rw [vD,aF,aC h]
 rfl
theorem Qd {nd:D} {ns:List Int} (hnd:qc4 nd ns) {a s:Option D}:∀ (l:Wk) (t:Int) (x:Option D),(∀ k∈l,k < ns.length)->∃ x',vk (gNm 4) (jE 3 (d2 Qi (d2 ixD (qe 1) (qe 4)) (qe 3))) (inL l) [a,some nd,s,some (.int t),x]=.ok (.nx,[a,some nd,s,some (.int (qN ns t l)),x'])
 | [],t,x,_=>⟨x,rfl⟩
 | k::l,t,x,h=>by
  have hk:=hnd k (h k (ai ..))
  obtain ⟨x',e⟩:=Qd hnd (a:=a) (s:=s) l (nI ns k - t) (some (.int (k:Nat))) fun j hj=>h j (aa _ hj)
  refine ⟨x',?_⟩
  have e0:qN ns t (k::l)=qN ns (nI ns k - t) l:=rfl
  rw [e0,<-e]
  simp [inL,vk,hk,Qi,vV]
variable {nd:D}
theorem yb (hnd:qc4 nd ns) {l:Wk} (h:∀ k∈l,k < ns.length) (t:Int):kT [lD l,nd,.int t]=.ok (.int (qN ns t l),[.non,.non,.non]):=by
 obtain ⟨x',e⟩:=Qd hnd (a:=some (lD l)) (s:=some (.int t)) l t none h
 refine runD_ap.trans ?_
 unfold xh
 rw [show qy xg [lD l,nd,.int t]=[some (lD l),some nd,some (.int t),none,none] from rfl]
 refine (qF (ρ1:=[some (lD l),some nd,some (.int t),some (.int t),none]) (by simp)).trans ?_
 refine (qF (ρ1:=[some (lD l),some nd,some (.int t),some (.int (qN ns t l)),x']) (by rw [kq]; exact e)).trans ?_
 simp [qA]
noncomputable def odd (l:Wk):Bool:=decide (l.length % 2=1)
theorem gm (l:Wk):wn [lD l]=.ok (.bl (odd l),[.non]):=by
 refine runD_ap.trans ?_
 have h:((inL l).length:Int) % 2=((l.length % 2:Nat):Int):=by simp [inL]
 by_cases q:l.length % 2=1
 ·simp [zi,qy,jI,vW,vV,eqD,eqN,eqS,qA,h,odd,q]
 ·have q':¬((l.length % 2:Nat):Int)=1:=by omega
  simp [zi,qy,jI,vW,vV,eqD,eqN,eqS,qA,h,odd,q,q']
  omega
noncomputable def Yb (l:Wk) (r:Int) (ns:List Int):Bool:=if odd l=true then decide (r % 2=0)&&decide (qN ns 0 l % 2=1) else !decide (qN ns 0 l % r=0)
theorem qc5 (hnd:qc4 nd ns) {l:Wk} (h:∀ k∈l,k < ns.length) (hr:1<=r):WW [lD l,.int r,nd]=.ok (.bl (Yb l r ns),[.non,.non,.non]):=by
 have h1:=yb hnd h 0
 have h2:=gm l
 have hr':0 < r:=by omega
 refine runD_ap.trans ?_
 unfold Yb
 generalize qN ns 0 l=t at h1
 cases q:odd l with
 | true=>
  rw [q] at h2
  by_cases e1:r % 2=0 <;> simp [WV,qy,qE,jl,h1,h2,yg,vW,vV,eqD,eqN,eqS,qA,e1] <;> rfl
 | false=>
  rw [q] at h2
  simp [WV,qy,qE,jl,h1,h2,yg,vW,vV,neD,eqN,eqS,qA,hr']
  rfl
abbrev Wy:=List (Str×Str×Wk)
noncomputable def wD (W:Wy):List (Key×D):=W.map fun e=>(.inr e.1,.tup [.str e.2.1,lD e.2.2])
noncomputable def kW (W:Wy):List Str:=W.map (·.1)
theorem qbv (W:Wy) (x:Str):qad (wD W) (.inr x)=decide (x∈kW W):=by
 unfold qad wD kW
 induction W with
 | nil=>rfl
 | cons e W ih=>
  rw [aG,cK,ih]
  by_cases h:e.1=x
  ·subst h; simp
  ·have h2:¬(bj e.1:Key)=bj x:=fun z=>h (bj.inj z)
   have h3:¬x=e.1:=fun z=>h z.symm
   simp [h2,h3]
variable {W:Wy}
theorem qbw {r:Str} {l:Wk} (h:x∉kW W):Jz (wD W) (.inr x) (.tup [.str r,lD l])=wD (W++[(x,r,l)]):=by
 unfold Jz
 have h1:((wD W).any fun p=>decide (p.1=(bj x:Key)))=false:=by
  have:=qbv W x
  unfold qad at this
  rw [this]
  exact decide_eq_false h
 rw [h1,if_neg br]
 unfold wD
 rw [cu]
 rfl
theorem qc6:∀ {W:Wy} {e:Str×Str×Wk},(kW W).Nodup->e∈W->ixD (.dct (wD W)) (.str e.1)=.ok (.tup [.str e.2.1,lD e.2.2])
 | [],e,_,h=>by cases h
 | a::W,e,hn,h=>by
  have hn2:=aI.mp (show (a.1::kW W).Nodup from hn)
  rcases ac.mp h with rfl | h
  ·simp [ixD,wD]
  ·have hne:a.1≠e.1:=fun z=>hn2.1 (by rw [z]; exact ah.mpr ⟨e,h,rfl⟩)
   have ih:=qc6 hn2.2 h
   unfold ixD at ih ⊢
   simp only [wD,aG] at ih ⊢
   have h2:¬(bj a.1:Key)=bj e.1:=fun z=>hne (bj.inj z)
   rw [bt (by simpa using h2)]
   exact ih
inductive Path (seen:List Pr) (r:Str):Wk->Str->Prop
 | nil:Path seen r [] r
 | snoc {l:Wk} {x y:Str} {k:Nat} {p:Pr}:Path seen r l x->seen[k]?=some p->(p=(x,y)\/p=(y,x))->Path seen r (l++[k]) y
variable {seen:List Pr}
theorem Path.lt {r:Str} {l:Wk} (h:Path seen r l x):∀ k∈l,k < seen.length:=by
 induction h with
 | nil=>simp
 | snoc _ e _ ih=>
  intro k hk
  rcases aj.mp hk with hk | hk
  ·exact ih k hk
  ·rw [au.mp hk]
   exact (aA.mp e).1
structure WI (seen:List Pr) (W:Wy):Prop where
 nd:(kW W).Nodup
 sub:∀ x∈kW W,x∈LS seen
 path:∀ e∈W,Path seen e.2.1 e.2.2 e.1
 len:∀ e∈W,e.2.2.length < W.length
theorem kB (W V:Wy):kW (W++V)=kW W++kW V:=by simp [kW]
theorem WI.add (h:WI seen W) {r:Str} {l:Wk} (hx:x∉kW W) (hm:x∈LS seen) (hp:Path seen r l x) (hl:l.length<=W.length):WI seen (W++[(x,r,l)]) where
 nd:=by
  rw [kB]
  refine bV.mpr ⟨h.nd,by simp [kW],fun a ha b hb=>?_⟩
  rw [show kW [(x,r,l)]=[x] from rfl] at hb
  rw [au.mp hb]
  exact fun z=>hx (z ▸ ha)
 sub:=fun y hy=>by
  rw [kB] at hy
  rcases aj.mp hy with hy | hy
  ·exact h.sub y hy
  ·rw [show y=x from au.mp hy]; exact hm
 path:=fun e he=>by
  rcases aj.mp he with he | he
  ·exact h.path e he
  ·rw [au.mp he]; exact hp
 len:=fun e he=>by
  rw [af]
  rcases aj.mp he with he | he
  ·have:=h.len e he; simp; omega
  ·rw [au.mp he]; simp; omega
theorem VV:∀ {a b:List Str},a.Nodup->(∀ x∈a,x∈b)->a.length<=b.length
 | [],b,_,_=>bq _
 | x::a,b,hn,h=>by
  have hn2:=aI.mp hn
  have hx:=h x (ai ..)
  have ih:=VV (b:=b.erase x) hn2.2 fun y hy=>(List.mem_erase_of_ne (fun z=>hn2.1 (by rw [<-z]; exact hy))).mpr (h y (aa _ hy))
  rw [List.length_erase_of_mem hx] at ih
  have:=cX hx
  rw [ao]
  omega
theorem WI.le (h:WI seen W):W.length<=(LS seen).length:=by
 have:=VV h.nd h.sub
 simpa [kW] using this
noncomputable def oth (p:Pr) (x:Str):Str:=if x=p.1 then p.2 else p.1
theorem qaR (p:Pr) (x:Str):kw [pD p,.str x]=.ok (.str (oth p x),[.non,.non]):=by
 refine runD_ap.trans ?_
 unfold oth
 by_cases h:x=p.1 <;> simp [vE,qy,qA,ixD,at0,at1,eqD,eqN,eqS,h]
theorem qc7 (p:Pr) (x:Str):inA (.str x) (pD p)=.ok (.bl (decide (x=p.1\/x=p.2))):=by
 have h:=yK x [p.1,p.2]
 simp only [aG,bT] at h
 show (inD (.str x) (pD p)).bind (fun b=>Out.ok (D.bl b))=_
 unfold inD
 simp only [h]
 simp
theorem Uc (W:Wy) (x:Str):Qv (.str x) (.dct (wD W))=.ok (.bl (!decide (x∈kW W))):=by
 unfold Qv
 simp only [Qr]
 rw [qbv]
theorem qeY {p:Pr} (hp:p∈seen) (x:Str):oth p x∈LS seen:=by
 rw [mem_LS]
 refine ⟨p,hp,?_⟩
 unfold oth
 split
 ·exact .inr rfl
 ·exact .inl rfl
abbrev spB:Sl->Out (Fl×Sl):=(qW (jE 7 (qv [.vl,.vl] kw (qd (qe 6) (qd (qe 4) qC))))
  (sIf (qb8 (jg (d2 inA (qe 4) (qe 6))) (jg (d2 Qv (qe 7) (qe 2)))) (qW (xN 2 (vj (qd (qe 1) (qd (d2 kt (d2 ixD (d2O 2 ixD (qe 4)) (dC (.int 1))) (wL (qd (qe 5) qC))) qC))) (qe 7))
  (kD (zz 3 Qq (qe 7)))) jN))
theorem Gf {f g:Sl->Out (Fl×Sl)} (h:f ρ=.ok (.nx,ρ1)):qW f g ρ=g ρ1:=by
 rw [Vu,h]
 rfl
variable {g:D->Sl->Out Sl} {fb:Sl->Out (Fl×Sl)} {ρ2:Sl}
theorem vB (h1:g d ρ=.ok ρ1) (h2:fb ρ1=.ok (.nx,ρ2)):vk g fb (d::ds) ρ=vk g fb ds ρ2:=by
 rw [vk,h1]
 simp only [Out.plain,kz]
 rw [h2]
 rfl
theorem qeZ {v:D} (h1:g d ρ=.ok ρ1) (h2:fb ρ1=.ok (.rt v,ρ2)):vk g fb (d::ds) ρ=.ok (.rt v,ρ2):=by
 rw [vk,h1]
 simp only [Out.plain,kz]
 rw [h2]
 rfl
variable {root y:Str} {ly:Wk}
theorem qc8 (hs:(LS seen).length<=20) (hW:WI seen W) (hy:(y,root,ly)∈W) {k:Nat} {p:Pr} (hk:seen[k]?=some p) (Q:List Str) (hQ:Q.length<=1000) (sd x7:Option D) :
  ∃ (M:Wy) (rch:Option D),WI seen (W++M)/\(∀ e∈M,e.2.1=root)/\M.length<=1/\((y=p.1\/y=p.2)->oth p y∈kW (W++M)) /\
   spB [sd,some (.str root),some (.dct (wD W)),some (.lst (Q.map D.str)),some (.str y),some (.int (k:Nat)),some (pD p),x7]=.ok (.nx,[sd,some (.str root),some (.dct (wD (W++M))),some (.lst ((Q++kW M).map D.str)),some (.str y),some (.int (k:Nat)),some (pD p),rch]):=by
 have h1:=qaR p y
 have h2:=qc7 p y
 have h3:=Uc W (oth p y)
 have hle:=hW.le
 have hbg:=big
 have hll:=hW.len _ hy
 have hpm:p∈seen:=aP hk
 by_cases q:(y=p.1\/y=p.2)/\oth p y∉kW W
 ·refine ⟨[(oth p y,root,ly++[k])],some (.str (oth p y)),hW.add q.2 (qeY hpm y) (.snoc (hW.path _ hy) hk ?_) (by rw [af]; simp; simp at hll; omega),by simp,by simp,fun _=>by rw [kB]; exact aj.mpr (.inr (by simp [kW])),?_⟩
  ·obtain ⟨p1,p2⟩:=p
   unfold oth
   rcases q.1 with e | e
   ·have e:y=p1:=e
    subst e
    simp
   ·have e:y=p2:=e
    subst e
    by_cases z:y=p1
    ·subst z; simp
    ·simp [z]
  ·unfold spB
   rw [Gf (ρ1:=[sd,some (.str root),some (.dct (wD W)),some (.lst (Q.map D.str)),some (.str y),some (.int (k:Nat)),some (pD p),some (.str (oth p y))]) (by simp [qE,jl,h1])]
   have hb1:decide (y=p.1\/y=p.2)=true:=decide_eq_true q.1
   have hb2:(!decide (oth p y∈kW W))=true:=by rw [decide_eq_false q.2]; rfl
   rw [hb1] at h2
   rw [hb2] at h3
   have hix:=qc6 hW.nd hy
   simp only [] at hix
   have hix2:ixD (.tup [.str root,lD ly]) (.int 1)=.ok (lD ly):=by simp [ixD,at1]
   have hput:=qbw (W:=W) (x:=oth p y) (r:=root) (l:=ly++[k]) q.2
   have hl:(inL ly).length+1<=sizeLine:=by simp [inL]; simp at hll; omega
   have z1:1<=sizeLine:=by omega
   have z2:2<=sizeLine:=by omega
   have hwl:(wD W).length < sizeLine:=by simp [wD]; omega
   have hql:Q.length < sizeLine:=by omega
   have hin:inL ly++[.int (k:Nat)]=inL (ly++[k]):=by simp [inL]
   rw [qex,show qb8 (jg (d2 inA (qe 4) (qe 6))) (jg (d2 Qv (qe 7) (qe 2))) [sd,some (.str root),some (.dct (wD W)),some (.lst (Q.map D.str)),some (.str y),some (.int (k:Nat)),some (pD p),some (.str (oth p y))]=.ok (true,[sd,some (.str root),some (.dct (wD W)),some (.lst (Q.map D.str)),some (.str y),some (.int (k:Nat)),some (pD p),some (.str (oth p y))]) by simp [h2,h3]]
   simp only [kz,if_true]
   rw [Gf (ρ1:=[sd,some (.str root),some (.dct (wD (W++[(oth p y,root,ly++[k])]))),some (.lst (Q.map D.str)),some (.str y),some (.int (k:Nat)),some (pD p),some (.str (oth p y))]) (by
    simp [xN,d2O,hix,hix2,kt,z1,z2,hl,hin,Qr,hwl,hput])]
   simp [wQ,Qq,hql,kW]
 ·refine ⟨[],some (.str (oth p y)),by simpa using hW,by simp,by simp,fun z=>?_,?_⟩
  ·rw [aY]
   exact bE fun w=>q ⟨z,w⟩
  ·unfold spB
   rw [Gf (ρ1:=[sd,some (.str root),some (.dct (wD W)),some (.lst (Q.map D.str)),some (.str y),some (.int (k:Nat)),some (pD p),some (.str (oth p y))]) (by simp [qE,jl,h1])]
   by_cases z:y=p.1\/y=p.2
   ·have hb1:decide (y=p.1\/y=p.2)=true:=decide_eq_true z
    have hm:oth p y∈kW W:=bE fun w=>q ⟨z,w⟩
    have hb2:(!decide (oth p y∈kW W))=false:=by rw [decide_eq_true hm]; rfl
    rw [hb1] at h2
    rw [hb2] at h3
    simp [h2,h3,kW]
   ·have hb1:decide (y=p.1\/y=p.2)=false:=decide_eq_false z
    rw [hb1] at h2
    simp [h2,kW]
noncomputable def en (k0:Nat) (rest:List Pr):List D:=(rest.zipIdx k0).map fun p=>.tup [.int (p.2:Nat),pD p.1]
theorem qe0 (seen:List Pr):QB (kA seen)=en 0 seen:=by
 unfold QB en kA
 rw [List.zipIdx_map,bD]
 rfl
theorem qbx (hs:(LS seen).length<=20) (sd:Option D):∀ (rest:List Pr) (k0:Nat) (W:Wy) (Q:List Str) (x5 x6 x7:Option D),seen.drop k0=rest->WI seen W->(y,root,ly)∈W->Q.length+rest.length<=500 ->
  ∃ (M:Wy) (y5 y6 y7:Option D),WI seen (W++M)/\(∀ e∈M,e.2.1=root)/\(∀ p∈rest,(y=p.1\/y=p.2)->oth p y∈kW (W++M))/\M.length<=rest.length /\
   vk (kg 2 (qH (gNm 5) (qH (gNm 6) kf))) spB (en k0 rest) [sd,some (.str root),some (.dct (wD W)),some (.lst (Q.map D.str)),some (.str y),x5,x6,x7]=.ok (.nx,[sd,some (.str root),some (.dct (wD (W++M))),some (.lst ((Q++kW M).map D.str)),some (.str y),y5,y6,y7])
 | [],k0,W,Q,x5,x6,x7,_,hW,_,_=>⟨[],x5,x6,x7,by simpa using hW,by simp,by simp,by simp,by simp [en,vk,kW]⟩
 | p::rest,k0,W,Q,x5,x6,x7,hd,hW,hy,hQ=>by
  rw [ao] at hQ
  have hk:seen[k0]?=some p:=by
   have:=congrArg List.head? hd
   rw [List.head?_drop] at this
   simpa using this
  have hd2:seen.drop (k0+1)=rest:=by
   have:=congrArg List.tail hd
   rw [List.tail_drop] at this
   simpa using this
  obtain ⟨M1,r1,a1,a2,a3,a4,a5⟩:=qc8 hs hW hy hk Q (by omega) sd x7
  have hm1:(kW M1).length<=1:=by simpa [kW] using a3
  obtain ⟨M2,y5,y6,y7,b1,b2,b3,b4,b5⟩:=qbx hs sd rest (k0+1) (W++M1) (Q++kW M1) (some (.int (k0:Nat))) (some (pD p)) r1 hd2 a1 (aj.mpr (.inl hy)) (by rw [af]; omega)
  refine ⟨M1++M2,y5,y6,y7,by rw [<-aM]; exact b1,fun e he=>?_,fun p' hp' hz=>?_,by rw [af,ao]; omega,?_⟩
  ·rcases aj.mp he with he | he
   ·exact a2 e he
   ·exact b2 e he
  ·rw [<-aM,kB]
   rcases ac.mp hp' with rfl | hp'
   ·exact aj.mpr (.inl (a4 hz))
   ·have:=b3 p' hp' hz
    rw [kB] at this
    exact this
  ·rw [kB,<-aM,<-aM]
   refine cE ?_ b5
   have e0:en k0 (p::rest)=.tup [.int (k0:Nat),pD p]::en (k0+1) rest:=by simp [en,eV]
   rw [e0]
   exact vB rfl a5
theorem qaS (h1:ft ρ=.ok (true,ρ1)) (h2:fb ρ1=.ok (.nx,ρ2)):kh ft fb (n+1) ρ=kh ft fb n ρ2:=by
 rw [kh,h1]
 simp only [kz,if_true]
 rw [h2]
 rfl
theorem Zz (h1:ft ρ=.ok (false,ρ1)):kh ft fb (n+1) ρ=.ok (.nx,ρ1):=by
 rw [kh,h1]
 rfl
abbrev spC:Sl->Out (Bool×Sl):=jg (d2 gtD (d1 jI (qe 3)) (dC (.int 0)))
abbrev spW:Sl->Out (Fl×Sl):=(qW (jE 4 (XO 3)) (gA (UM (qe 0)) (kg 2 (qH (gNm 5) (qH (gNm 6) kf))) spB))
abbrev sD (seen:List Pr):D:=.lst (kA seen)
theorem Ud (hn:seen.length<=10) (hs:(LS seen).length<=20) (root:Str):∀ (n:Nat) (W:Wy) (Q:List Str) (x4 x5 x6 x7:Option D),n<=100->WI seen W->(∀ x∈Q,∃ l,(x,root,l)∈W)->Q.length+((LS seen).length - W.length) < n ->
  ∃ (M:Wy) (y4 y5 y6 y7:Option D),WI seen (W++M)/\(∀ e∈M,e.2.1=root)/\(∀ x,x∈Q\/x∈kW M->∀ p∈seen,(x=p.1\/x=p.2)->oth p x∈kW (W++M)) /\
   kh spC spW n [some (sD seen),some (.str root),some (.dct (wD W)),some (.lst (Q.map D.str)),x4,x5,x6,x7]=.ok (.nx,[some (sD seen),some (.str root),some (.dct (wD (W++M))),some (.lst []),y4,y5,y6,y7])
 | 0,W,Q,x4,x5,x6,x7,_,_,_,h=>absurd h (Nat.not_lt_zero _)
 | n+1,W,[],x4,x5,x6,x7,_,hW,_,_=>⟨[],x4,x5,x6,x7,by simpa using hW,by simp,by simp [kW],by
  rw [aY]
  exact Zz (by simp [jI,gtD,vV])⟩
 | n+1,W,y::Q,x4,x5,x6,x7,h100,hW,hQ,hm=>by
  obtain ⟨ly,hy⟩:=hQ y (ai ..)
  rw [ao] at hm
  obtain ⟨M1,y5,y6,y7,a1,a2,a3,a4,a5⟩:=qbx hs (some (sD seen)) seen 0 W Q x5 x6 x7 (by simp) hW hy (by omega)
  have hle:=a1.le
  rw [af] at hle
  obtain ⟨M2,z4,z5,z6,z7,b1,b2,b3,b4⟩:=Ud hn hs root n (W++M1) (Q++kW M1) (some (.str y)) y5 y6 y7 (by omega) a1 (fun x hx=>by
   rcases aj.mp hx with hx | hx
   ·obtain ⟨l,hl⟩:=hQ x (aa _ hx)
    exact ⟨l,aj.mpr (.inl hl)⟩
   ·obtain ⟨e,he,rfl⟩:=ah.mp hx
    refine ⟨e.2.2,aj.mpr (.inr ?_)⟩
    rw [<-a2 e he]
    exact he) (by
   rw [af,af,show (kW M1).length=M1.length by simp [kW]]
   omega)
  refine ⟨M1++M2,z4,z5,z6,z7,by rw [<-aM]; exact b1,fun e he=>?_,fun x hx p hp hz=>?_,?_⟩
  ·rcases aj.mp he with he | he
   ·exact a2 e he
   ·exact b2 e he
  ·rw [<-aM]
   by_cases q:x=y
   ·subst q
    rw [kB]
    exact aj.mpr (.inl (a3 p hp hz))
   ·refine b3 x ?_ p hp hz
    rcases hx with hx | hx
    ·rcases ac.mp hx with e | hx
     ·exact absurd e q
     ·exact .inl (aj.mpr (.inl hx))
    ·rw [kB] at hx
     rcases aj.mp hx with hx | hx
     ·exact .inl (aj.mpr (.inr hx))
     ·exact .inr hx
  ·rw [<-aM]
   refine cE ?_ b4
   refine qaS (ρ1:=[some (sD seen),some (.str root),some (.dct (wD W)),some (.lst ((y::Q).map D.str)),x4,x5,x6,x7]) (by
    have:(0:Int) < (Q.length:Int)+1:=by omega
    simp [jI,gtD,vV,this]) ?_
   unfold spW
   rw [Gf (ρ1:=[some (sD seen),some (.str root),some (.dct (wD W)),some (.lst (Q.map D.str)),some (.str y),x5,x6,x7]) (by simp [XO])]
   rw [kq,show UM (qe 0) [some (sD seen),some (.str root),some (.dct (wD W)),some (.lst (Q.map D.str)),some (.str y),x5,x6,x7]=.ok (QB (kA seen),[some (sD seen),some (.str root),some (.dct (wD W)),some (.lst (Q.map D.str)),some (.str y),x5,x6,x7]) from rfl,kz,qe0]
   exact a5
theorem ZA (hn:seen.length<=6) (hs:(LS seen).length<=12) (hW:WI seen W) (hr:root∉kW W) (hm:root∈LS seen) :
  ∃ M:Wy,WI seen (W++M)/\(∀ e∈M,e.2.1=root)/\(root,root,[])∈M/\(∀ x∈kW M,∀ p∈seen,(x=p.1\/x=p.2)->oth p x∈kW (W++M))/\zg [sD seen,.str root,.dct (wD W)]=.ok (.non,[.non,.non,.dct (wD (W++M))]):=by
 have hW1:=hW.add hr hm (r:=root) (l:=[]) .nil (bq _)
 have hle:=hW1.le
 have hle0:=hW.le
 have hbg:=big
 obtain ⟨M,y4,y5,y6,y7,a1,a2,a3,a4⟩:=Ud (by omega) (by omega) root 20 (W++[(root,root,[])]) [root] none none none none (by omega) hW1 (fun x hx=>⟨[],by rw [au.mp hx]; exact aj.mpr (.inr (au.mpr rfl))⟩) (by simp; omega)
 rw [aM] at a1 a3 a4
 refine ⟨[(root,root,[])]++M,a1,fun e he=>?_,aj.mpr (.inl (au.mpr rfl)),fun x hx p hp hz=>a3 x ?_ p hp hz,?_⟩
 ·rcases aj.mp he with he | he
  ·rw [au.mp he]
  ·exact a2 e he
 ·rw [kB] at hx
  rcases aj.mp hx with hx | hx
  ·exact .inl hx
  ·exact .inr hx
 ·refine runD_ap.trans ?_
  unfold QY
  rw [show qy QX [sD seen,.str root,.dct (wD W)]=[some (sD seen),some (.str root),some (.dct (wD W)),none,none,none,none,none] from rfl]
  have hput:=qbw (W:=W) (x:=root) (r:=root) (l:=[]) hr
  rw [show lD []=.lst [] from rfl] at hput
  have z2:2<=sizeLine:=by omega
  have z1:1<=sizeLine:=by omega
  have hwl:(wD W).length < sizeLine:=by simp [wD]; omega
  refine (qF (ρ1:=[some (sD seen),some (.str root),some (.dct (wD (W++[(root,root,[])]))),none,none,none,none,none]) (by simp [xN,z2,Qr,hwl,hput])).trans ?_
  refine (qF (ρ1:=[some (sD seen),some (.str root),some (.dct (wD (W++[(root,root,[])]))),some (.lst [.str root]),none,none,none,none]) (by simp [z1])).trans ?_
  exact (congrArg (Yg [.val,.val,.io]) a4).trans rfl
def CI (seen:List Pr) (W:Wy):Prop:=∀ e∈W,∀ p∈seen,(e.1=p.1\/e.1=p.2)->∃ e'∈W,e'.1=oth p e.1/\e'.2.1=e.2.1
def RI (W:Wy):Prop:=∀ e∈W,(e.2.1,e.2.1,[])∈W
theorem qc9 {p:Pr} (h:x=p.1\/x=p.2):oth p (oth p x)=x/\(oth p x=p.1\/oth p x=p.2):=by
 obtain ⟨a,b⟩:=p
 unfold oth
 simp only []
 by_cases q:x=a
 ·subst q
  simp only [if_true]
  by_cases q2:b=x
  ·subst q2; simp
  ·simp [q2]
 ·have:x=b:=by rcases h with h | h; exact absurd h q; exact h
  subst this
  simp [q]
theorem zl:∀ {W:Wy},(kW W).Nodup->∀ {e e':Str×Str×Wk},e∈W->e'∈W->e.1=e'.1->e=e'
 | [],_,e,e',h,_,_=>by cases h
 | a::W,hn,e,e',h,h',q=>by
  have hn2:=aI.mp (show (a.1::kW W).Nodup from hn)
  rcases ac.mp h with h1 | h1
  ·rcases ac.mp h' with h2 | h2
   ·rw [h1,h2]
   ·exact absurd (show a.1∈kW W from ah.mpr ⟨e',h2,by rw [<-q,h1]⟩) hn2.1
  ·rcases ac.mp h' with h2 | h2
   ·exact absurd (show a.1∈kW W from ah.mpr ⟨e,h1,by rw [q,h2]⟩) hn2.1
   ·exact zl hn2.2 h1 h2 q
abbrev woB:Sl->Out (Fl×Sl):=(sIf (jg (d2 Qv (qe 2) (qe 1))) (kD (qv [.vl,.vl,.sl 1] zg (qd (qe 0) (qd (qe 2) (jO qC))))) jN)
def MI (W:Wy):Prop:=∀ e∈W,leS e.2.1 e.1
theorem qaT (x:Str):leS x x:=(Kk x x).elim id id
theorem gn (hn:seen.length<=6) (hs:(LS seen).length<=12):∀ (xs:List Str) (W:Wy) (x:Option D),(∀ x∈xs,x∈LS seen)->xs.Pairwise leS->(∀ z∈LS seen,z∈kW W\/z∈xs)->WI seen W->CI seen W->RI W->MI W ->
  ∃ (M:Wy) (x':Option D),WI seen (W++M)/\CI seen (W++M)/\RI (W++M)/\MI (W++M)/\(∀ x∈xs,x∈kW (W++M))/\vk (gNm 2) woB (xs.map D.str) [some (sD seen),some (.dct (wD W)),x]=.ok (.nx,[some (sD seen),some (.dct (wD (W++M))),x'])
 | [],W,x,_,_,_,hW,hC,hR,hM=>⟨[],x,by simpa using hW,by simpa using hC,by simpa using hR,by simpa using hM,by simp,by simp [vk]⟩
 | y::xs,W,x,hx,hso,hal,hW,hC,hR,hM=>by
  have hso2:=aS.mp hso
  have h3:=Uc W y
  by_cases q:y∈kW W
  ·obtain ⟨M,x',a1,a2,a3,am,a4,a5⟩:=gn hn hs xs W (some (.str y)) (fun z hz=>hx z (aa _ hz)) hso2.2 (fun z hz=>by
    rcases hal z hz with h | h
    ·exact .inl h
    ·rcases ac.mp h with rfl | h
     ·exact .inl q
     ·exact .inr h) hW hC hR hM
   refine ⟨M,x',a1,a2,a3,am,fun z hz=>?_,?_⟩
   ·rcases ac.mp hz with rfl | hz
    ·rw [kB]; exact aj.mpr (.inl q)
    ·exact a4 z hz
   ·refine cE (vB (ρ1:=[some (sD seen),some (.dct (wD W)),some (.str y)]) rfl ?_) a5
    rw [decide_eq_true q] at h3
    simp [h3]
  ·obtain ⟨M1,b1,b2,b3,b4,b5⟩:=ZA hn hs hW q (hx y (ai ..))
   have hR1:RI (W++M1):=fun e he=>by
    rcases aj.mp he with he | he
    ·exact aj.mpr (.inl (hR e he))
    ·rw [b2 e he]
     exact aj.mpr (.inr b3)
   have hC1:CI seen (W++M1):=fun e he p hp hz=>by
    rcases aj.mp he with he | he
    ·obtain ⟨e',h1,h2⟩:=hC e he p hp hz
     exact ⟨e',aj.mpr (.inl h1),h2⟩
    ·have hk:=b4 e.1 (ah.mpr ⟨e,he,rfl⟩) p hp hz
     obtain ⟨e',h1,h2⟩:=ah.mp hk
     refine ⟨e',h1,h2,?_⟩
     rcases aj.mp h1 with h1' | h1'
     ·exfalso
      obtain ⟨o1,o2⟩:=qc9 hz
      rw [<-h2] at o1 o2
      obtain ⟨e2,h4,h5,_⟩:=hC e' h1' p hp o2
      rw [o1] at h5
      have:=zl b1.nd (aj.mpr (.inl h4)) (aj.mpr (.inr he)) h5
      subst this
      have hnd:=b1.nd
      rw [kB] at hnd
      exact (bV.mp hnd).2.2 e2.1 (ah.mpr ⟨e2,h4,rfl⟩) e2.1 (ah.mpr ⟨e2,he,rfl⟩) rfl
     ·rw [b2 e' h1',b2 e he]
   have hM1:MI (W++M1):=fun e he=>by
    rcases aj.mp he with he | he
    ·exact hM e he
    ·rw [b2 e he]
     have hnd:=b1.nd
     rw [kB] at hnd
     have hnw:e.1∉kW W:=fun z=>(bV.mp hnd).2.2 e.1 z e.1 (ah.mpr ⟨e,he,rfl⟩) rfl
     have hls:=b1.sub e.1 (by rw [kB]; exact aj.mpr (.inr (ah.mpr ⟨e,he,rfl⟩)))
     rcases hal e.1 hls with h | h
     ·exact absurd h hnw
     ·rcases ac.mp h with h | h
      ·rw [h]; exact qaT _
      ·exact hso2.1 e.1 h
   obtain ⟨M2,x',a1,a2,a3,am,a4,a5⟩:=gn hn hs xs (W++M1) (some (.str y)) (fun z hz=>hx z (aa _ hz)) hso2.2 (fun z hz=>by
    rcases hal z hz with h | h
    ·exact .inl (by rw [kB]; exact aj.mpr (.inl h))
    ·rcases ac.mp h with rfl | h
     ·exact .inl (by rw [kB]; exact aj.mpr (.inr (ah.mpr ⟨_,b3,rfl⟩)))
     ·exact .inr h) b1 hC1 hR1 hM1
   rw [aM] at a1 a2 a3 am a4 a5
   refine ⟨M1++M2,x',a1,a2,a3,am,fun z hz=>?_,?_⟩
   ·rcases ac.mp hz with rfl | hz
    ·rw [kB,kB]
     exact aj.mpr (.inr (aj.mpr (.inl (ah.mpr ⟨_,b3,rfl⟩))))
    ·exact a4 z hz
   ·refine cE (vB (ρ1:=[some (sD seen),some (.dct (wD W)),some (.str y)]) rfl ?_) a5
    rw [decide_eq_false q] at h3
    simp [h3,qE,jl,b5]
theorem Yc (hn:seen.length<=6) (hs:(LS seen).length<=12) :
  ∃ W:Wy,WI seen W/\CI seen W/\RI W/\MI W/\(∀ x∈LS seen,x∈kW W)/\vN [sD seen]=.ok (.dct (wD W),[.non]):=by
 obtain ⟨W,x',a1,a2,a3,am,a4,a5⟩:=gn hn hs (LS seen) [] none (fun _ h=>h) (by unfold LS; exact ji _) (fun z hz=>.inr hz) ⟨by simp [kW],by simp [kW],by simp,by simp⟩ (fun e he=>by cases he) (fun e he=>by cases he) (fun e he=>by cases he)
 rw [bX] at a1 a2 a3 am a4 a5
 refine ⟨W,a1,a2,a3,am,a4,?_⟩
 have hlo:=Jm (l:=seen) (by omega)
 refine runD_ap.trans ?_
 unfold gc
 rw [show qy gb [sD seen]=[some (sD seen),none,none] from rfl]
 refine (qF (ρ1:=[some (sD seen),some (.dct []),none]) (by simp)).trans ?_
 refine (qF (ρ1:=[some (sD seen),some (.dct (wD W)),x']) (by
  rw [kq,show kG (qv [.vl] vw (qd (qe 0) qC)) [some (sD seen),some (.dct []),none]=.ok ((LS seen).map D.str,[some (sD seen),some (.dct []),none]) by simp [qE,jl,hlo,jK],kz]
  exact a5)).trans ?_
 simp [qA]
noncomputable def qJ (W:Wy) (x:Str):Str×Wk:=((W.find? fun e=>decide (e.1=x)).map (·.2)).getD (⟨#[]⟩,[])
theorem jk (h:x∈kW W):(x,qJ W x)∈W:=by
 unfold qJ
 cases q:W.find? fun e=>decide (e.1=x) with
 | none=>
  obtain ⟨e,he,rfl⟩:=ah.mp h
  have:=dI.mp q e he
  simp at this
 | some e=>
  have h1:=bG q
  have h2:e.1=x:=by simpa using fj q
  rw [<-h2]
  exact h1
theorem Jo (hn:(kW W).Nodup) (h:x∈kW W):ixD (.dct (wD W)) (.str x)=.ok (.tup [.str (qJ W x).1,lD (qJ W x).2]):=qc6 hn (jk h)
theorem qgG:ixD (.tup [a,b]) (.int 0)=.ok a:=by simp [ixD,at0]
theorem qgH:ixD (.tup [a,b]) (.int 1)=.ok b:=by simp [ixD,at1]
theorem qda (a b:Wk):inL a++inL b=inL (a++b):=by simp [inL]
theorem ZB (a:Wk):(inL a).length=a.length:=by simp [inL]
theorem qe1 (l:Wk):yy (lD l)=.ok (lD l.reverse):=by simp [yy,inL]
theorem ZC {a b:Wk} (h:a.length+b.length<=2000):kt (lD a) (lD b)=.ok (lD (a++b)):=by
 have hz:(inL a).length+(inL b).length<=sizeLine:=by rw [ZB,ZB]; exact jj h
 show (if (inL a).length+(inL b).length<=sizeLine then Out.ok (D.lst (inL a++inL b)) else .bad)=_
 rw [if_pos hz,qda]
abbrev Ci:=Str×Wk
noncomputable def cd (c:Ci):D:=.tup [.str c.1,lD c.2]
noncomputable def cD (C:List Ci):List D:=C.map cd
noncomputable def VW (W:Wy) (p:Pr) (k:Nat):Ci:=((qJ W p.1).1,(qJ W p.1).2++[k]++(qJ W p.2).2.reverse)
noncomputable def CL (W:Wy) (k0:Nat) (rest:List Pr):List Ci:=(rest.zipIdx k0).map fun p=>VW W p.1 p.2
abbrev ciB:Sl->Out (Fl×Sl):=(qW (jE 5 (d1 yy (d2 ixD (d2 ixD (qe 1) (d2 ixD (qe 4) (dC (.int 1)))) (dC (.int 1)))))
  (kD (zz 2 Qq (vj (qd (d2 ixD (d2 ixD (qe 1) (d2 ixD (qe 4) (dC (.int 0)))) (dC (.int 0))) (qd (d2 kt (d2 kt (d2 ixD (d2 ixD (qe 1) (d2 ixD (qe 4) (dC (.int 0)))) (dC (.int 1))) (wL (qd (qe 3) qC))) (qe 5)) qC))))))
theorem qdb (hs:(LS seen).length<=20) (hW:WI seen W) {p:Pr} (h1:p.1∈kW W) (h2:p.2∈kW W) {k:Nat} {acc:List D} (ha:acc.length < 1000) (sd x5:Option D) :
  ∃ y5,ciB [sd,some (.dct (wD W)),some (.lst acc),some (.int (k:Nat)),some (pD p),x5]=.ok (.nx,[sd,some (.dct (wD W)),some (.lst (acc++[cd (VW W p k)])),some (.int (k:Nat)),some (pD p),y5]):=by
 have i1:=Jo hW.nd h1
 have i2:=Jo hW.nd h2
 have l1:=hW.len _ (jk h1)
 have l2:=hW.len _ (jk h2)
 have hle:=hW.le
 have hbg:=big
 simp only [] at l1 l2
 have z1:1<=sizeLine:=by omega
 have z2:2<=sizeLine:=by omega
 have hal:acc.length < sizeLine:=by omega
 have a1:=ZC (a:=(qJ W p.1).2) (b:=[k]) (by simp; omega)
 have a2:=ZC (a:=(qJ W p.1).2++[k]) (b:=(qJ W p.2).2.reverse) (by simp; omega)
 have a1:kt (lD (qJ W p.1).2) (.lst [.int (k:Nat)])=.ok (lD ((qJ W p.1).2++[k])):=a1
 have r2:=qe1 (qJ W p.2).2
 refine ⟨some (lD (qJ W p.2).2.reverse),?_⟩
 unfold ciB VW cd
 rw [Gf (ρ1:=[sd,some (.dct (wD W)),some (.lst acc),some (.int (k:Nat)),some (pD p),some (lD (qJ W p.2).2.reverse)]) (by simp [qgH,i2,r2])]
 simp [wQ,qgG,qgH,i1,a1,a2,z1,z2,Qq,hal]
theorem ZD (hs:(LS seen).length<=20) (hW:WI seen W) (sd:Option D):∀ (rest:List Pr) (k0:Nat) (acc:List Ci) (x3 x4 x5:Option D),(∀ p∈rest,p.1∈kW W/\p.2∈kW W)->acc.length+rest.length<=500 ->
  ∃ y3 y4 y5,vk (kg 2 (qH (gNm 3) (qH (gNm 4) kf))) ciB (en k0 rest) [sd,some (.dct (wD W)),some (.lst (cD acc)),x3,x4,x5]=.ok (.nx,[sd,some (.dct (wD W)),some (.lst (cD (acc++CL W k0 rest))),y3,y4,y5])
 | [],k0,acc,x3,x4,x5,_,_=>⟨x3,x4,x5,by simp [en,CL,vk]⟩
 | p::rest,k0,acc,x3,x4,x5,h,hl=>by
  rw [ao] at hl
  obtain ⟨h1,h2⟩:=h p (ai ..)
  obtain ⟨r5,e⟩:=qdb hs hW h1 h2 (k:=k0) (acc:=cD acc) (by simp [cD]; omega) sd x5
  obtain ⟨y3,y4,y5,ih⟩:=ZD hs hW sd rest (k0+1) (acc++[VW W p k0]) (some (.int (k0:Nat))) (some (pD p)) r5 (fun q hq=>h q (aa _ hq)) (by rw [af]; simp; omega)
  refine ⟨y3,y4,y5,?_⟩
  have e0:en k0 (p::rest)=.tup [.int (k0:Nat),pD p]::en (k0+1) rest:=by simp [en,eV]
  have e1:acc++CL W k0 (p::rest)=(acc++[VW W p k0])++CL W (k0+1) rest:=by simp [CL,eV]
  rw [e0,e1]
  refine cE (vB rfl e) ?_
  rw [show cD acc++[cd (VW W p k0)]=cD (acc++[VW W p k0]) by simp [cD]]
  exact ih
theorem vh (ha:∀ x∈LS seen,x∈kW W):∀ p∈seen,p.1∈kW W/\p.2∈kW W:=fun p hp=>⟨ha _ (mem_LS.mpr ⟨p,hp,.inl rfl⟩),ha _ (mem_LS.mpr ⟨p,hp,.inr rfl⟩)⟩
theorem Qe (hn:seen.length<=6) (hs:(LS seen).length<=20) (hW:WI seen W) (ha:∀ x∈LS seen,x∈kW W):vy [sD seen,.dct (wD W)]=.ok (.lst (cD (CL W 0 seen)),[.non,.non]):=by
 obtain ⟨y3,y4,y5,e⟩:=ZD hs hW (some (sD seen)) seen 0 [] none none none (vh ha) (by simp; omega)
 rw [bX] at e
 refine runD_ap.trans ?_
 unfold wX
 rw [show qy wW [sD seen,.dct (wD W)]=[some (sD seen),some (.dct (wD W)),none,none,none,none] from rfl]
 refine (qF (ρ1:=[some (sD seen),some (.dct (wD W)),some (.lst []),none,none,none]) (by simp)).trans ?_
 refine (qF (ρ1:=[some (sD seen),some (.dct (wD W)),some (.lst (cD (CL W 0 seen))),y3,y4,y5]) (by
  rw [kq,show UM (qe 0) [some (sD seen),some (.dct (wD W)),some (.lst []),none,none,none]=.ok (QB (kA seen),[some (sD seen),some (.dct (wD W)),some (.lst []),none,none,none]) from rfl,kz,qe0]
  exact e)).trans ?_
 simp [qA]
theorem qe2 (hW:WI seen W) (ha:∀ x∈LS seen,x∈kW W):∀ c∈CL W 0 seen,∀ k∈c.2,k < seen.length:=by
 intro c hc k hk
 obtain ⟨q,hq,rfl⟩:=ah.mp hc
 obtain ⟨p,j⟩:=q
 have hj:=List.mem_zipIdx hq
 have hp:p∈seen:=by rw [hj.2.2]; exact ce _
 obtain ⟨h1,h2⟩:=vh ha p hp
 unfold VW at hk
 simp only [aj,dn,au] at hk
 rcases hk with (hk | hk) | hk
 ·exact (hW.path _ (jk h1)).lt k hk
 ·have:=hj.2.1
  omega
 ·exact (hW.path _ (jk h2)).lt k hk
noncomputable def fD (F:List Ci):List (Key×D):=F.map fun c=>(.inr c.1,lD c.2)
noncomputable def kF (F:List Ci):List Str:=F.map (·.1)
theorem qby (F:List Ci) (x:Str):qad (fD F) (.inr x)=decide (x∈kF F):=by
 unfold qad fD kF
 induction F with
 | nil=>rfl
 | cons e F ih=>
  rw [aG,cK,ih]
  by_cases h:e.1=x
  ·subst h; simp
  ·have h2:¬(bj e.1:Key)=bj x:=fun z=>h (bj.inj z)
   have h3:¬x=e.1:=fun z=>h z.symm
   simp [h2,h3]
variable {F:List Ci}
theorem qe3 {l:Wk} (h:x∉kF F):Jz (fD F) (.inr x) (lD l)=fD (F++[(x,l)]):=by
 unfold Jz
 have h1:((fD F).any fun p=>decide (p.1=(bj x:Key)))=false:=by
  have:=qby F x
  unfold qad at this
  rw [this]
  exact decide_eq_false h
 rw [h1,if_neg br]
 unfold fD
 rw [cu]
 rfl
noncomputable def uC (F:List Ci) (x:Str):Wk:=((F.find? fun c=>decide (c.1=x)).map (·.2)).getD []
theorem VX:∀ (F:List Ci) (x:Str),(fD F).find? (fun kv=>decide (kv.1=(bj x:Key)))=(F.find? fun c=>decide (c.1=x)).map fun c=>(bj c.1,lD c.2)
 | [],x=>rfl
 | c::F,x=>by
  have ih:=VX F x
  unfold fD at ih ⊢
  rw [aG]
  by_cases h:c.1=x
  ·rw [bC (by simp [h]),bC (by simp [h])]
   rfl
  ·have h2:¬(bj c.1:Key)=bj x:=fun z=>h (bj.inj z)
   rw [bt (by simpa using h2),bt (by simpa using h),ih]
theorem qgI (h:x∈kF F):ixD (.dct (fD F)) (.str x)=.ok (lD (uC F x)):=by
 unfold ixD uC
 simp only [VX]
 cases q:F.find? fun c=>decide (c.1=x) with
 | none=>
  obtain ⟨e,he,rfl⟩:=ah.mp h
  have:=dI.mp q e he
  simp at this
 | some c=>rfl
theorem qe4 (F:List Ci) (x:Str):qfI (fD F) (.inr x) (.lst [])=lD (uC F x):=by
 unfold qfI uC
 rw [VX]
 cases F.find? fun c=>decide (c.1=x) <;> rfl
noncomputable def FO:List Ci->List Ci->List Ci
 | F,[]=>F
 | F,c::C=>FO (if odd c.2=true/\c.1∉kF F then F++[c] else F) C
theorem gp:∀ (C F:List Ci),(∀ c∈FO F C,c∈F\/c∈C)/\(∀ x∈kF F,x∈kF (FO F C))/\(∀ c∈C,odd c.2=true->c.1∈kF (FO F C))/\(FO F C).length<=F.length+C.length
 | [],F=>⟨fun c h=>.inl h,fun x h=>h,by simp,by simp [FO]⟩
 | c::C,F=>by
  unfold FO
  by_cases q:odd c.2=true/\c.1∉kF F
  ·rw [if_pos q]
   obtain ⟨a,b,d,e⟩:=gp C (F++[c])
   refine ⟨fun y hy=>?_,fun x hx=>b x (by simp [kF] at hx ⊢; exact .inl hx),fun y hy ho=>?_,by rw [af] at e; simp at e ⊢; omega⟩
   ·rcases a y hy with h | h
    ·rcases aj.mp h with h | h
     ·exact .inl h
     ·exact .inr (by rw [au.mp h]; exact ai ..)
    ·exact .inr (aa _ h)
   ·rcases ac.mp hy with rfl | hy
    ·exact b _ (by simp [kF])
    ·exact d y hy ho
  ·rw [if_neg q]
   obtain ⟨a,b,d,e⟩:=gp C F
   refine ⟨fun y hy=>?_,b,fun y hy ho=>?_,by simp at e ⊢; omega⟩
   ·rcases a y hy with h | h
    ·exact .inl h
    ·exact .inr (aa _ h)
   ·rcases ac.mp hy with rfl | hy
    ·exact b _ (bE fun w=>q ⟨ho,w⟩)
    ·exact d y hy ho
abbrev foB:Sl->Out (Fl×Sl):=(sIf (qb8 (gy (qv [.vl] wn (qd (qe 3) qC))) (jg (d2 Qv (qe 2) (qe 1)))) (xN 1 (qe 3) (qe 2)) jN)
theorem qe5 (F:List Ci) (x:Str):Qv (.str x) (.dct (fD F))=.ok (.bl (!decide (x∈kF F))):=by
 unfold Qv
 simp only [Qr]
 rw [qby]
theorem VY (cd0:Option D):∀ (C F:List Ci) (x2 x3:Option D),F.length+C.length<=500->∃ y2 y3,vk (kg 2 (qH (gNm 2) (qH (gNm 3) kf))) foB (cD C) [cd0,some (.dct (fD F)),x2,x3]=.ok (.nx,[cd0,some (.dct (fD (FO F C))),y2,y3])
 | [],F,x2,x3,_=>⟨x2,x3,rfl⟩
 | c::C,F,x2,x3,hl=>by
  rw [ao] at hl
  have h1:=gm c.2
  have h2:=qe5 F c.1
  have hwl:(fD F).length < sizeLine:=aH (by simp [fD]; omega) big
  unfold FO
  by_cases q:odd c.2=true/\c.1∉kF F
  ·rw [if_pos q]
   obtain ⟨y2,y3,ih⟩:=VY cd0 C (F++[c]) (some (.str c.1)) (some (lD c.2)) (by rw [af]; simp; omega)
   refine ⟨y2,y3,cE (vB (d:=cd c) (ρ1:=[cd0,some (.dct (fD F)),some (.str c.1),some (lD c.2)]) rfl ?_) ih⟩
   rw [q.1] at h1
   rw [decide_eq_false q.2] at h2
   have hp:=qe3 (F:=F) (x:=c.1) (l:=c.2) q.2
   simp [qE,jl,h1,yg,h2,xN,Qr,hwl,hp]
  ·rw [if_neg q]
   obtain ⟨y2,y3,ih⟩:=VY cd0 C F (some (.str c.1)) (some (lD c.2)) (by omega)
   refine ⟨y2,y3,cE (vB (d:=cd c) (ρ1:=[cd0,some (.dct (fD F)),some (.str c.1),some (lD c.2)]) rfl ?_) ih⟩
   cases q1:odd c.2 with
   | false=>
    rw [q1] at h1
    simp [qE,jl,h1,yg]
   | true=>
    rw [q1] at h1
    have:c.1∈kF F:=bE fun w=>q ⟨q1,w⟩
    rw [decide_eq_true this] at h2
    simp [qE,jl,h1,yg,h2]
theorem Ue (C:List Ci) (hl:C.length<=400):wq [.lst (cD C)]=.ok (.dct (fD (FO [] C)),[.non]):=by
 obtain ⟨y2,y3,e⟩:=VY (some (.lst (cD C))) C [] none none (by simp; omega)
 refine runD_ap.trans ?_
 unfold uW
 rw [show qy uV [.lst (cD C)]=[some (.lst (cD C)),none,none,none] from rfl]
 refine (qF (ρ1:=[some (.lst (cD C)),some (.dct []),none,none]) (by simp)).trans ?_
 refine (qF (ρ1:=[some (.lst (cD C)),some (.dct (fD (FO [] C))),y2,y3]) (by
  rw [kq,show kG (qe 0) [some (.lst (cD C)),some (.dct []),none,none]=.ok (cD C,[some (.lst (cD C)),some (.dct []),none,none]) from rfl,kz]
  exact e)).trans ?_
 simp [qA]
noncomputable def JN (F C:List Ci):List Ci:=(C.filter fun c=>odd c.2).map fun c=>(c.1,uC F c.1++c.2)
abbrev joT:Sl->Out (Bool×Sl):=gy (qv [.vl] wn (qd (qe 1) qC))
abbrev joE:Sl->Out (D×Sl):=vj (qd (qe 0) (qd (d2 kt (d2 ixD (qe 2) (qe 0)) (qe 1)) qC))
theorem ZE (hF:∀ c∈F,c.2.length<=100):∀ (C:List Ci) (x y:Option D),(∀ c∈C,c.2.length<=100)->(∀ c∈C,odd c.2=true->c.1∈kF F) ->
  ∃ x' y',jx (kg 2 (qH (gNm 0) (qH (gNm 1) kf))) joT joE (cD C) [x,y,some (.dct (fD F))]=.ok (cD (JN F C),[x',y',some (.dct (fD F))])
 | [],x,y,_,_=>⟨x,y,rfl⟩
 | c::C,x,y,hl,hk=>by
  obtain ⟨x',y',ih⟩:=ZE hF C (some (.str c.1)) (some (lD c.2)) (fun d hd=>hl d (aa _ hd)) fun d hd=>hk d (aa _ hd)
  refine ⟨x',y',?_⟩
  have h1:=gm c.2
  have z2:2<=sizeLine:=jj (by omega)
  have e0:cD (c::C)=.tup [.str c.1,lD c.2]::cD C:=rfl
  cases q:odd c.2 with
  | false=>
   rw [q] at h1
   have e1:JN F (c::C)=JN F C:=by simp [JN,q]
   rw [e0,e1]
   simp [jx,ym,kg,qH,kf,qE,jl,h1,yg,ih]
  | true=>
   rw [q] at h1
   have e1:JN F (c::C)=(c.1,uC F c.1++c.2)::JN F C:=by simp [JN,q]
   have hm:=hk c (ai ..) q
   have i1:=qgI hm
   have hg:(uC F c.1).length<=100:=by
    unfold uC
    cases w:F.find? fun d=>decide (d.1=c.1) with
    | none=>simp
    | some d=>exact hF d (bG w)
   have hcl:=hl c (ai ..)
   have a1:=ZC (a:=uC F c.1) (b:=c.2) (by omega)
   rw [e0,e1]
   simp [jx,ym,kg,qH,kf,qE,jl,h1,yg,i1,a1,z2,ih]
   simp [cD,cd]
theorem zm {nt:Nat} {es:List D} (h:fi ρ=.ok (ds,ρ1)) (hl:ds.length<=sizeLine) (hc:jx g ft fe ds (kJ nt cap ρ1)=.ok (es,ρ2)):jC own nt cap fi g ft fe ρ=.ok (.lst es,jF own ρ2 nt cap ρ1):=by
 unfold jC
 rw [h]
 simp only [kz]
 rw [if_pos hl,hc]
 rfl
abbrev baB:Sl->Out (Fl×Sl):=(sIf (gy (qv [.vl,.vl,.vl] WW (qd (qe 7) (qd (qe 1) (qd (qe 2) qC))))) (jL (vj (qd (qe 6) (qd (qe 7) qC)))) jN)
theorem ZF (hnd:qc4 nd ns) (hr:1<=r) (a b c d:Option D):∀ (L:List Ci) (x y:Option D),(∀ w∈L,∀ k∈w.2,k < ns.length)->∃ ρ,vk (kg 2 (qH (gNm 6) (qH (gNm 7) kf))) baB (cD L) [a,some (.int r),some nd,b,c,d,x,y]=.ok (match L.find? fun w=>Yb w.2 r ns with | some w=>.rt (cd w) | none=>.nx,ρ)
 | [],x,y,_=>⟨_,rfl⟩
 | w::L,x,y,h=>by
  have h1:=qc5 hnd (h w (ai ..)) hr
  have z2:2<=sizeLine:=jj (by omega)
  cases q:Yb w.2 r ns with
  | true=>
   rw [q] at h1
   refine ⟨[a,some (.int r),some nd,b,c,d,some (.str w.1),some (lD w.2)],?_⟩
   rw [bC (by simpa using q)]
   exact qeZ (d:=cd w) (ρ1:=[a,some (.int r),some nd,b,c,d,some (.str w.1),some (lD w.2)]) rfl (by simp [qE,jl,h1,yg,z2,cd])
  | false=>
   rw [q] at h1
   obtain ⟨ρ,ih⟩:=ZF hnd hr a b c d L (some (.str w.1)) (some (lD w.2)) fun v hv=>h v (aa _ hv)
   refine ⟨ρ,?_⟩
   rw [bt (by simpa using q)]
   exact cE (vB (d:=cd w) (ρ1:=[a,some (.int r),some nd,b,c,d,some (.str w.1),some (lD w.2)]) rfl (by simp [qE,jl,h1,yg])) ih
noncomputable def BO (W:Wy) (seen:List Pr) (r:Int) (ns:List Int):Option Ci:=(CL W 0 seen++JN (FO [] (CL W 0 seen)) (CL W 0 seen)).find? fun w=>Yb w.2 r ns
theorem qe6 (hs:(LS seen).length<=20) (hW:WI seen W) (ha:∀ x∈LS seen,x∈kW W):∀ c∈CL W 0 seen,c.2.length<=100:=by
 intro c hc
 obtain ⟨q,hq,rfl⟩:=ah.mp hc
 obtain ⟨p,j⟩:=q
 have hj:=List.mem_zipIdx hq
 have hp:p∈seen:=by rw [hj.2.2]; exact ce _
 obtain ⟨h1,h2⟩:=vh ha p hp
 have l1:=hW.len _ (jk h1)
 have l2:=hW.len _ (jk h2)
 have hle:=hW.le
 simp only [] at l1 l2
 unfold VW
 simp
 omega
theorem ZG (W:Wy) (k0:Nat) (seen:List Pr):(CL W k0 seen).length=seen.length:=by simp [CL]
structure Sn (seen:List Pr) (W:Wy):Prop where
 n:seen.length<=6
 s:(LS seen).length<=12
 w:WI seen W
 C:CI seen W
 R:RI W
 a:∀ x∈LS seen,x∈kW W
 e:vN [sD seen]=.ok (.dct (wD W),[.non])
 z:∀ x∈LS seen,x.length<=2000
 m:MI W
theorem ZH (S:Sn seen W) (hnd:qc4 nd ns) (hns:ns.length=seen.length) (hr:1<=r) :
  Jg [sD seen,.int r,nd]=.ok (match BO W seen r ns with | some w=>cd w | none=>.non,[.non,.non,.non]):=by
 have hs:(LS seen).length<=20:=by have:=S.s; omega
 have h1:=Qe S.n hs S.w S.a
 have hcl:=ZG W 0 seen
 have hn:=S.n
 have h2:=Ue (CL W 0 seen) (by omega)
 have hlen:=qe6 hs S.w S.a
 have hlt:=qe2 S.w S.a
 obtain ⟨f1,_,f3,f4⟩:=gp (CL W 0 seen) []
 have hF:∀ c∈FO [] (CL W 0 seen),c∈CL W 0 seen:=fun c hc=>by
  rcases f1 c hc with h | h
  ·cases h
  ·exact h
 unfold BO
 generalize hC:CL W 0 seen=C at h1 h2 hcl hlen hlt f3 hF
 generalize hFo:FO [] C=F at h2 f3 hF
 obtain ⟨x',y',jc⟩:=ZE (F:=F) (fun c hc=>hlen c (hF c hc)) C none none hlen f3
 refine runD_ap.trans ?_
 unfold Jf
 rw [show qy zj [sD seen,.int r,nd]=[some (sD seen),some (.int r),some (nd),none,none,none,none,none] from rfl]
 have hw:=S.e
 refine (qF (ρ1:=[some (sD seen),some (.int r),some (nd),some (.lst (cD C)),none,none,none,none]) (by simp [qE,jl,hw,h1])).trans ?_
 refine (qF (ρ1:=[some (sD seen),some (.int r),some (nd),some (.lst (cD C)),some (.dct (fD F)),none,none,none]) (by simp [qE,jl,h2])).trans ?_
 have jd:=zm (own:=[]) (cap:=[4]) (nt:=2) (fi:=kG (qe 3)) (g:=kg 2 (qH (gNm 0) (qH (gNm 1) kf))) (ft:=joT) (fe:=joE) (ρ:=[some (sD seen),some (.int r),some (nd),some (.lst (cD C)),some (.dct (fD F)),none,none,none]) (ρ1:=[some (sD seen),some (.int r),some (nd),some (.lst (cD C)),some (.dct (fD F)),none,none,none]) (ds:=cD C) rfl (by simp [cD]; exact jj (by omega)) jc
 refine (qF (ρ1:=[some (sD seen),some (.int r),some (nd),some (.lst (cD C)),some (.dct (fD F)),some (.lst (cD (JN F C))),none,none]) (by rw [zL,jd]; rfl)).trans ?_
 have hjl:(JN F C).length<=6:=by
  unfold JN
  rw [ay]
  have:=c8 (fun c:Ci=>odd c.2) C
  omega
 have hz:(cD C).length+(cD (JN F C)).length<=sizeLine:=by simp [cD]; exact jj (by omega)
 have hall:∀ w∈C++JN F C,∀ k∈w.2,k < ns.length:=fun w hw k hk=>by
  rw [hns]
  rcases aj.mp hw with h | h
  ·exact hlt w h k hk
  ·obtain ⟨c,hc,rfl⟩:=ah.mp h
   have hc:=(bK.mp hc).1
   rcases aj.mp hk with h | h
   ·unfold uC at h
    cases w:F.find? fun d=>decide (d.1=c.1) with
    | none=>rw [w] at h; cases h
    | some d=>
     rw [w] at h
     exact hlt d (hF d (bG w)) k h
   ·exact hlt c hc k h
 obtain ⟨ρ,e⟩:=ZF hnd hr (some (sD seen)) (some (.lst (cD C))) (some (.dct (fD F))) (some (.lst (cD (JN F C)))) (C++JN F C) none none hall
 have hfor:gA (kG (d2 kt (qe 3) (qe 5))) (kg 2 (qH (gNm 6) (qH (gNm 7) kf))) baB [some (sD seen),some (.int r),some (nd),some (.lst (cD C)),some (.dct (fD F)),some (.lst (cD (JN F C))),none,none]=vk (kg 2 (qH (gNm 6) (qH (gNm 7) kf))) baB (cD (C++JN F C)) [some (sD seen),some (.int r),some (nd),some (.lst (cD C)),some (.dct (fD F)),some (.lst (cD (JN F C))),none,none]:=by
  rw [kq,show kG (d2 kt (qe 3) (qe 5)) [some (sD seen),some (.int r),some (nd),some (.lst (cD C)),some (.dct (fD F)),some (.lst (cD (JN F C))),none,none]=.ok (cD (C++JN F C),[some (sD seen),some (.int r),some (nd),some (.lst (cD C)),some (.dct (fD F)),some (.lst (cD (JN F C))),none,none]) by
   simp [kt,hz,jK]
   simp [cD]]
  rfl
 cases q:(C++JN F C).find? fun w=>Yb w.2 r ns with
 | some w=>
  rw [q] at e
  rw [Vu,hfor.trans e]
  rfl
 | none=>
  rw [q] at e
  refine (qF (hfor.trans e)).trans ?_
  rfl
theorem Jp (hw:jo ws) (hl:Jx p q):uU [Wd ws,Ld p q]=.ok (sD (qu ws p q),[.non,.non]):=qaQ hw hl
def kj (n:Nat) (r:Int) (ns:List Int):Prop:=ns.length=n/\∀ i∈ns,0<=i/\i < r
theorem Jq (h:kj n r ns) (hn:n<=50):ud [nD ns,.int (n:Nat),.int r]=.ok (.bl true,[.non,.non,.non]):=by
 have ht:=qeS (d:=nD ns) trivial
 have e:=xK (cap:=[2]) (fi:=kG (qe 0)) (ρ:=[some (nD ns),some (.int (n:Nat)),some (.int r)]) (ρ1:=[some (nD ns),some (.int (n:Nat)),some (.int r)]) (ds:=ns.map D.int) (fe:=qv [.vl,.vl,.vl] js (qd (qe 0) (qd (dC (.int 0)) (qd (d2 Qi (qe 1) (dC (.int 1))) qC)))) (fun d=>.bl (Qa 0 (r - 1) d)) (by simp [jK]) (by rw [ay,h.1]; exact jj (by omega)) (fun d hd=>by
  obtain ⟨i,hi,rfl⟩:=ah.mp hd
  have h1:=jD (d:=.int i) trivial 0 (r - 1)
  simp [qE,jl,Qi,vV,h1])
 have ha:=Jk (Qa 0 (r - 1)) (ns.map D.int)
 have hall:(ns.map D.int).all (Qa 0 (r - 1))=true:=by
  rw [ba]
  intro d hd
  obtain ⟨i,hi,rfl⟩:=ah.mp hd
  have:=h.2 i hi
  simp [Qa]
  omega
 rw [hall] at ha
 have hlen:(ns.map D.int).length=n:=by rw [ay,h.1]
 refine runD_ap.trans ?_
 simp [-bD,uc,qy,qA,ht,qc1,yg,jI,neD,eqN,eqS,h.1,e,ha]
theorem xR (h:kj n r ns) (hn:n<=50):vf [nD ns,.int (n:Nat),.int r]=.ok (.non,[.non,.non,.non]):=by
 have h1:=Jq h hn
 refine runD_ap.trans ?_
 simp [vd,qy,qA,qE,jl,h1,yg]
theorem qdc (hw:jo ws) (hl:Jx p q) (h0:1<=r) (h1:r<=99) (hn:kj ws.length r ns):ug [Wd ws,Ld p q,.int r,nD ns]=.ok (sD (qu ws p q),[.non,.non,.non,.non]):=by
 have e1:=Jp hw hl
 have e2:=Jn (d:=.int r) trivial
 rw [if_pos (by simp [Qa]; exact ⟨h0,h1⟩)] at e2
 have e3:=xR hn (by have:=hw.2.1; omega)
 refine runD_ap.trans ?_
 simp [uf,qy,qA,qE,jl,e1,e2,jI,e3]
theorem qgJ (hw:jo ws) (p q:Int):∃ W,Sn (qu ws p q) W:=by
 have h1:(qu ws p q).length<=6:=by simp [qu]; exact hw.2.1
 have h2:=Zx hw p q
 obtain ⟨W,a,b,c,m,d,e⟩:=Yc h1 h2
 exact ⟨W,h1,h2,a,b,c,d,e,fun x hx=>by
  obtain ⟨k,_,rfl⟩:=qgF hw p q x hx
  show 1<=2000
  omega,m⟩
theorem qe7 (hw:jo ws) (hl:Jx p q) (h0:1<=r) (h1:r<=99) (hn:kj ws.length r ns) (S:Sn (qu ws p q) W) :
  qcT [Wd ws,Ld p q,.int r,nD ns]=.ok (match BO W (qu ws p q) r ns with | some w=>cd w | none=>.non,[.non,.non,.non,.non]):=by
 have e1:=qdc hw hl h0 h1 hn
 have e2:=ZH S (Zy ns) (by rw [hn.1]; simp [qu]) h0
 refine runD_ap.trans ?_
 simp [qcS,qy,qA,qE,jl,e1,e2]
noncomputable def yN (t r:Int):Int:=if t % r % 2=0 then t % r / 2 else (t % r+r) / 2
theorem qdd (t:Int) (hr:1<=r):Zi [.int t,.int r]=.ok (.int (yN t r),[.non,.non]):=by
 have h0:0 < r:=by omega
 have hc:∀ i,qbS i 2:=fun i=>⟨by omega,by omega⟩
 unfold yN
 refine runD_ap.trans ?_
 by_cases q:t % r % 2=0 <;> simp [Zh,qy,qA,vW,vV,h0,eqD,eqN,eqS,yP,hc,kt,q]
noncomputable def rW (l:Wk) (r:Int) (ns:List Int):List Int:=if l=[] then (aJ r.toNat).map fun (j:Nat)=>(j:Int) else if r % 2=0 then [yN (qN ns 0 l) r,yN (qN ns 0 l) r+r / 2] else [yN (qN ns 0 l) r]
abbrev iD (xs:List Int):D:=.lst (xs.map D.int)
theorem gJ {l:Wk} (h:∀ k∈l,k < ns.length) (hr:1<=r) (h9:r<=99):kN [lD l,.int r,nD ns]=.ok (iD (rW l r ns),[.non,.non,.non]):=by
 have z2:2<=sizeLine:=jj (by omega)
 have z1:1<=sizeLine:=jj (by omega)
 have hc:∀ i,qbS i 2:=fun i=>⟨by omega,by omega⟩
 refine runD_ap.trans ?_
 unfold rW
 cases l with
 | nil=>
  have c1:qez 0 r/\r - 0<=1000000:=⟨⟨⟨by omega,by omega⟩,by omega,by omega⟩,by omega⟩
  have e:yx (.int r)=.ok (.lst ((aJ r.toNat).map fun (j:Nat)=>.int (j:Int))):=by
   unfold yx
   dsimp only
   rw [if_pos c1,Int.sub_zero]
   simp [xx]
  rw [if_pos rfl,show iD ((aJ r.toNat).map fun (j:Nat)=>(j:Int))=.lst ((aJ r.toNat).map fun (j:Nat)=>.int (j:Int)) by simp [iD]]
  simp [ka,qy,qA,jI,inL,eqD,eqN,eqS,e]
 | cons a l=>
  have h1:=yb (Zy ns) h 0
  have h2:=qdd (qN ns 0 (a::l)) hr
  have hlen:¬inL (a::l)=[]:=by simp [inL]
  rw [if_neg (by simp)]
  generalize hx:qN ns 0 (a::l)=t at h1 h2
  generalize hy:yN t r=w at h2
  generalize hz:lD (a::l)=ld at h1
  have hlen2:jI ld=.ok (.int ((inL (a::l)).length:Int)):=by rw [<-hz]; rfl
  by_cases q:r % 2=0
  ·rw [if_pos q]
   simp [ka,qy,qA,hlen2,eqD,eqN,eqS,hlen,qE,jl,h1,h2,vW,vV,q,yP,hc,kt,z2]
  ·rw [if_neg q]
   simp [ka,qy,qA,hlen2,eqD,eqN,eqS,hlen,qE,jl,h1,h2,vW,vV,q,z1]
noncomputable def RT (W:Wy):List Str:=(jX (kW W)).filter fun x=>decide ((qJ W x).1=x)
abbrev Rt:=Str×List Int
noncomputable def rd (x:Rt):D:=.tup [.str x.1,iD x.2]
noncomputable def RO (W:Wy) (seen:List Pr) (r:Int) (ns:List Int):List Rt:=(RT W).map fun x=>(x,rW (uC (FO [] (CL W 0 seen)) x) r ns)
theorem VZ:∀ W:Wy,Vv (wD W)=some (kW W)
 | []=>rfl
 | e::W=>by
  have ih:=VZ W
  show (Vv (wD W)).map (e.1::·)=_
  rw [ih]
  rfl
theorem gq (S:Sn seen W) (hns:ns.length=seen.length) (hr:1<=r) (h9:r<=99) :
  vQ [sD seen,.int r,nD ns]=.ok (.lst ((RO W seen r ns).map rd),[.non,.non,.non]):=by
 have hs:(LS seen).length<=20:=by have:=S.s; omega
 have h1:=Qe S.n hs S.w S.a
 have hcl:=ZG W 0 seen
 have hn:=S.n
 have h2:=Ue (CL W 0 seen) (by omega)
 have hlt:=qe2 S.w S.a
 obtain ⟨f1,_,f3,f4⟩:=gp (CL W 0 seen) []
 have hF:∀ c∈FO [] (CL W 0 seen),c∈CL W 0 seen:=fun c hc=>by
  rcases f1 c hc with h | h
  ·cases h
  ·exact h
 unfold RO
 generalize hC:CL W 0 seen=C at h1 h2 hcl hlt f3 hF
 generalize hFo:FO [] C=F at h2 f3 hF
 have hle:=S.w.le
 have hs12:=S.s
 have hk64:(kW W).length < 64:=by simp [kW]; omega
 have hkz:((kW W).all fun y=>decide (y.length<=sizeLine))=true:=by
  rw [ba]
  intro y hy
  exact decide_eq_true (jj (S.z y (S.w.sub y hy)))
 have hso:jY (.dct (wD W))=.ok (.lst ((jX (kW W)).map D.str)):=by
  unfold jY
  simp only [VZ]
  rw [if_pos ⟨hk64,hkz⟩]
 have hsm:∀ x∈jX (kW W),x∈kW W:=fun x hx=>(qR _).mem_iff.mp hx
 have hsl:(jX (kW W)).length<=12:=by rw [(qR _).length_eq]; simp [kW]; omega
 refine runD_ap.trans ?_
 unfold xi
 rw [show qy vP [sD seen,.int r,nD ns]=[some (sD seen),some (.int r),some (nD ns),none,none,none] from rfl]
 have hw:=S.e
 refine (qF (ρ1:=[some (sD seen),some (.int r),some (nD ns),some (.dct (wD W)),none,none]) (by simp [qE,jl,hw])).trans ?_
 refine (qF (ρ1:=[some (sD seen),some (.int r),some (nD ns),some (.dct (wD W)),some (.dct (fD F)),none]) (by simp [qE,jl,h1,h2])).trans ?_
 have c1:=qbs (own:=[]) (cap:=[3]) (fi:=kG (d1 jY (qe 3))) (ft:=jg (d2 eqD (d2 ixD (d2 ixD (qe 1) (qe 0)) (dC (.int 0))) (qe 0))) (fe:=qe 0) (ρ:=[some (sD seen),some (.int r),some (nD ns),some (.dct (wD W)),some (.dct (fD F)),none]) (ρ1:=[some (sD seen),some (.int r),some (nD ns),some (.dct (wD W)),some (.dct (fD F)),none]) (ds:=(jX (kW W)).map D.str) (fun d=>match d with | .str x=>decide ((qJ W x).1=x) | _=>false) (fun d=>d) (by simp) (by simp [hso,jK]) (by rw [ay]; exact jj (by omega)) (fun d hd=>by
  obtain ⟨x,hx,rfl⟩:=ah.mp hd
  have i1:=Jo S.w.nd (hsm x hx)
  simp [i1,qgG,eqD,eqN,eqS]
  rfl) (fun d hd _=>by simp)
 have e1:(((jX (kW W)).map D.str).filter fun d=>match d with | .str x=>decide ((qJ W x).1=x) | _=>false).map (fun d=>d)=(RT W).map D.str:=by
  rw [List.map_id',List.filter_map]
  rfl
 rw [e1] at c1
 refine (qF (ρ1:=[some (sD seen),some (.int r),some (nD ns),some (.dct (wD W)),some (.dct (fD F)),some (.lst ((RT W).map D.str))]) (by rw [zL,c1]; rfl)).trans ?_
 have hRl:(RT W).length<=12:=by
  have:=c8 (fun x=>decide ((qJ W x).1=x)) (jX (kW W))
  unfold RT
  omega
 have z2:2<=sizeLine:=jj (by omega)
 have c2:=xK (cap:=[1,2,4]) (fi:=kG (qe 5)) (fe:=vj (qd (qe 0) (qd (qv [.vl,.vl,.vl] kN (qd (qap (qe 3) (qe 0) (wL qC)) (qd (qe 1) (qd (qe 2) qC)))) qC))) (ρ:=[some (sD seen),some (.int r),some (nD ns),some (.dct (wD W)),some (.dct (fD F)),some (.lst ((RT W).map D.str))]) (ρ1:=[some (sD seen),some (.int r),some (nD ns),some (.dct (wD W)),some (.dct (fD F)),some (.lst ((RT W).map D.str))]) (ds:=(RT W).map D.str) (fun d=>match d with | .str x=>rd (x,rW (uC F x) r ns) | d=>d) (by simp [jK]) (by rw [ay]; exact jj (by omega)) (fun d hd=>by
  obtain ⟨x,hx,rfl⟩:=ah.mp hd
  have g1:=qe4 F x
  have hgl:∀ k∈uC F x,k < ns.length:=fun k hk=>by
   unfold uC at hk
   cases w:F.find? fun d=>decide (d.1=x) with
   | none=>rw [w] at hk; cases hk
   | some d=>
    rw [w] at hk
    rw [hns]
    exact hlt d (hF d (bG w)) k hk
  have h3:=gJ hgl hr h9
  simp [qap,Qr,g1,qE,jl,h3,z2,rd])
 have e2:((RT W).map D.str).map (fun d=>match d with | .str x=>rd (x,rW (uC F x) r ns) | d=>d)=((RT W).map fun x=>(x,rW (uC F x) r ns)).map rd:=by
  rw [bD,bD]
  rfl
 rw [e2] at c2
 rw [zK,c2]
 rfl
noncomputable def HM (W:Wy) (seen:List Pr) (r:Int) (ns:List Int):Int:=match BO W seen r ns with
 | some _=>0
 | none=>(RO W seen r ns).foldl (fun a x=>a * (x.2.length:Int)) 1
theorem qbz (l:Wk) (hr:1<=r) (h9:r<=99) (ns:List Int):(rW l r ns).length<=99:=by
 unfold rW
 split
 ·simp; omega
 ·split <;> simp
theorem ZI (a b c d:Option D):∀ (L:List Rt) (t:Int) (x y:Option D),(∀ w∈L,w.2.length<=99)->∃ x' y',vk (kg 2 (qH (gNm 5) (qH (gNm 6) kf))) (jE 4 (d2 Ye (qe 4) (d1 jI (qe 6)))) (L.map rd) [a,b,c,d,some (.int t),x,y]=.ok (.nx,[a,b,c,d,some (.int (L.foldl (fun a x=>a * (x.2.length:Int)) t)),x',y'])
 | [],t,x,y,_=>⟨x,y,rfl⟩
 | w::L,t,x,y,h=>by
  have hw:=h w (ai ..)
  obtain ⟨x',y',ih⟩:=ZI a b c d L (t * (w.2.length:Int)) (some (.str w.1)) (some (iD w.2)) fun v hv=>h v (aa _ hv)
  have hc:CMul t (w.2.length:Int):=.inr ⟨by omega,by omega⟩
  refine ⟨x',y',cE (vB (d:=rd w) (ρ1:=[a,b,c,d,some (.int t),some (.str w.1),some (iD w.2)]) rfl ?_) ih⟩
  simp [jI,Ye,vV,hc]
theorem gt (hw:jo ws) (hl:Jx p q) (h0:1<=r) (h9:r<=99) (hn:kj ws.length r ns) (S:Sn (qu ws p q) W) :
  xl [Wd ws,Ld p q,.int r,nD ns]=.ok (.int (HM W (qu ws p q) r ns),[.non,.non,.non,.non]):=by
 have e1:=qe7 hw hl h0 h9 hn S
 have e2:=Jp hw hl
 have e3:=gq S (ns:=ns) (by rw [hn.1]; simp [qu]) h0 h9
 refine runD_ap.trans ?_
 unfold HM
 cases qb:BO W (qu ws p q) r ns with
 | some c=>
  rw [qb] at e1
  simp [uA,qy,qA,qE,jl,e1,GG,cd]
 | none=>
  rw [qb] at e1
  obtain ⟨x',y',e4⟩:=ZI (some (Wd ws)) (some (Ld p q)) (some (.int r)) (some (nD ns)) (RO W (qu ws p q) r ns) 1 none none (fun w hw=>by
   obtain ⟨x,_,rfl⟩:=ah.mp hw
   exact qbz _ h0 h9 _)
  unfold uA
  rw [show qy xj [Wd ws,Ld p q,.int r,nD ns]=[some (Wd ws),some (Ld p q),some (.int r),some (nD ns),none,none,none] from rfl]
  refine (qF (ρ1:=[some (Wd ws),some (Ld p q),some (.int r),some (nD ns),none,none,none]) (by simp [qE,jl,e1,GG])).trans ?_
  refine (qF (ρ1:=[some (Wd ws),some (Ld p q),some (.int r),some (nD ns),some (.int 1),none,none]) (by simp)).trans ?_
  refine (qF (ρ1:=[some (Wd ws),some (Ld p q),some (.int r),some (nD ns),some (.int ((RO W (qu ws p q) r ns).foldl (fun a x=>a * (x.2.length:Int)) 1)),x',y']) (by
   rw [kq,show kG (qv [.vl,.vl,.vl] vQ (qd (qv [.vl,.vl] uU (qd (qe 0) (qd (qe 1) qC))) (qd (qe 2) (qd (qe 3) qC)))) [some (Wd ws),some (Ld p q),some (.int r),some (nD ns),some (.int 1),none,none]=.ok ((RO W (qu ws p q) r ns).map rd,[some (Wd ws),some (Ld p q),some (.int r),some (nD ns),some (.int 1),none,none]) by simp [qE,jl,e2,e3,jK],kz]
   exact e4)).trans ?_
  simp [qA]
theorem Wa (l:List Pr):(LS l).Nodup:=(qR _).nodup_iff.mpr (yM _ [] cS).1
theorem qaU (h:(qU l).Nodup):Kn (.lst (prL l))=.ok (.dct (bk l)):=by
 have:=VU l [] h (by simp)
 unfold Kn
 simp only [gl]
 rw [this]
 rfl
noncomputable def ke (l:List (Str×Int)) (s:List Pr) (r:Int):List Int:=s.map fun x=>(jq l x.1+jq l x.2) % r
theorem Uf (l:List (Str×Int)) (s:List Pr) (r:Int):qeU l s r=(ke l s r).map D.int:=by
 unfold qeU ke
 rw [bD]
 rfl
variable {f:Sl->Out (D×Sl)}
theorem iR0 {k:Int} (h0:0<=k) (h1:k<=2000) (h:f ρ=.ok (.int k,ρ1)):jw f ρ=.ok (xx 0 k.toNat,ρ1):=by
 have c1:-(2 ^ 62:Int)<=k/\k < 2 ^ 62:=by omega
 simp [jw,h,-Int.reducePow,c1]
abbrev stB:Sl->Out (Fl×Sl):=WK 9 (qv [.vl,.sl 1,.vl] jv (qd (qe 0) (jO (qd (qe 5) qC)))) (qv [.vl,.sl 1,.vl] jv (qd (qe 0) (jO (qd (d1 jI (qe 9)) qC))))
theorem ZJ (ns0:List Int) (hn:1<=n) (hr:1<=r) (a b c d e f:Option D):∀ (ks:List D) (town:List D) (ns:List Int) (x:Option D),town.length+2 * ks.length < 900->kj n r ns ->
  ∃ (town':List D) (ns':List Int) (x':Option D),town'.length=town.length+2 * ks.length/\kj n r ns'/\vk (gNm 10) stB ks [some (scr ns0),some (.lst town),a,b,c,some (.int r),d,e,f,some (iD ns),x]=.ok (.nx,[some (scr ns0),some (.lst town'),a,b,c,some (.int r),d,e,f,some (iD ns'),x'])
 | [],town,ns,x,_,h=>⟨town,ns,x,by simp,h,rfl⟩
 | k::ks,town,ns,x,ht,h=>by
  rw [ao] at ht
  obtain ⟨v,v0,v1,g1⟩:=vg ns0 town (many:=r) (by omega) (by omega)
  obtain ⟨i,i0,i1,g2⟩:=vg ns0 (town++[.int 0]) (many:=(ns.length:Int)) (by rw [h.1]; omega) (by rw [af]; simp; omega)
  obtain ⟨j,rfl⟩:=cT i0
  have hj:j < ns.length:=by omega
  have h':kj n r (ns.set j v):=⟨by rw [cY]; exact h.1,fun y hy=>by
   rcases List.mem_or_eq_of_mem_set hy with hy | rfl
   ·exact h.2 y hy
   ·exact ⟨v0,v1⟩⟩
  obtain ⟨town',ns',x',b1,b2,b3⟩:=ZJ ns0 hn hr a b c d e f ks (town++[.int 0]++[.int 0]) (ns.set j v) (some k) (by rw [af,af]; simp; omega) h'
  refine ⟨town',ns',x',by rw [b1,af,af,ao]; simp; omega,b2,cE (vB (ρ1:=[some (scr ns0),some (.lst town),a,b,c,some (.int r),d,e,f,some (iD ns),some k]) rfl ?_) b3⟩
  have hix:ixN (ns.map D.int).length (j:Int)=some j:=by
   unfold ixN
   rw [ay,if_pos (by omega),if_pos (by omega),Int.toNat_natCast]
  have hset:(ns.map D.int).set j (.int v)=(ns.set j v).map D.int:=by rw [List.map_set]
  have hlen:jI (iD ns)=.ok (.int (ns.length:Int)):=by simp [jI]
  simp only [stB,WK]
  simp only [qan,qak,qal,qcC,XC,UK,dN,dO,kz]
  simp [qE,jl,g1,hlen,g2]
  simp at hix hset
  simp [hix,hset]
structure Told (ws:List Str) (p q r:Int) (ns:List Int):Prop where
 w:jo ws
 w5:ws.length<=5
 l:Jx p q
 r0:1<=r
 r9:r<=4
 n:kj ws.length r ns
theorem Wb (ns0:List Int) (town:List D) (ht:town.length < 300):∃ ws p q r ns town',Told ws p q r ns/\town'.length<=town.length+200 /\
  VJ [scr ns0,.lst town,.int 5,.int 4]=.ok (.tup [Wd ws,Ld p q,.int r,nD ns],[.non,.lst town',.non,.non]):=by
 obtain ⟨sp,s0,s1,g1⟩:=vg ns0 town (many:=4) (by omega) (by omega)
 obtain ⟨r',r0,r1,g2⟩:=vg ns0 (town++[.int 0]) (many:=4) (by omega) (by rw [af]; simp; omega)
 obtain ⟨p,q,t3,hl,ht3,g3⟩:=qcZ ns0 (town++[.int 0]++[.int 0]) (by rw [af,af]; simp; omega)
 rw [af,af] at ht3
 simp at ht3
 obtain ⟨ws,t4,hw,h5,ht4,g4⟩:=qaP ns0 t3 (by omega)
 have hLn:=Zx hw p q
 obtain ⟨es,t5,x5,k5,b5,ht5,c5⟩:=Qc ns0 (room:=1+r') (by omega) (LS (qu ws p q)) t4 none (by omega)
 have hnd:(qU es).Nodup:=by rw [k5]; exact Wa _
 have hd:=qaU hnd
 have hll:=uJ hw hl
 have hby:=KI hw hl (r:=1+r') (by omega) (l:=es) (by rw [k5]; exact fun x hx=>hx)
 rw [Uf] at hby
 have hsl:(qu ws p q).length=ws.length:=by simp [qu]
 have hn0:kj ws.length (1+r') (ke es (qu ws p q) (1+r')):=⟨by unfold ke; rw [ay,hsl],fun y hy=>by
  obtain ⟨x,_,rfl⟩:=ah.mp hy
  exact ⟨cw _ (by omega),bN _ (by omega)⟩⟩
 have hcnt:0<=sp / 2 * (1+sp % 2)/\sp / 2 * (1+sp % 2)<=2:=by
  have:sp=0\/sp=1\/sp=2\/sp=3:=by omega
  rcases this with rfl | rfl | rfl | rfl <;> decide
 generalize hm:sp / 2 * (1+sp % 2)=m at hcnt
 have hrl:(xx 0 m.toNat).length=m.toNat:=by simp [xx]
 obtain ⟨t6,ns,x6,ht6,hns,e6⟩:=ZJ ns0 (n:=ws.length) (hw.1) (r:=1+r') (by omega) (some (.int 5)) (some (.int 4)) (some (.int sp)) (some (Ld p q)) (some (Wd ws)) (some (.dct (bk es))) (xx 0 m.toNat) t5 _ none (by rw [hrl]; omega) hn0
 rw [hrl] at ht6
 refine ⟨ws,p,q,1+r',ns,t6,⟨hw,h5,hl,by omega,by omega,hns⟩,by omega,?_⟩
 refine runD_ap.trans ?_
 unfold VI
 rw [show qy QP [scr ns0,.lst town,.int 5,.int 4]=[some (scr ns0),some (.lst town),some (.int 5),some (.int 4),none,none,none,none,none,none,none] from rfl]
 refine (qF (ρ1:=[some (scr ns0),some (.lst (town++[.int 0])),some (.int 5),some (.int 4),some (.int sp),none,none,none,none,none,none]) (by simp [qE,jl,g1])).trans ?_
 refine (qF (ρ1:=[some (scr ns0),some (.lst (town++[.int 0]++[.int 0])),some (.int 5),some (.int 4),some (.int sp),some (.int (1+r')),none,none,none,none,none]) (by simp [qE,jl,g2,kt])).trans ?_
 refine (qF (ρ1:=[some (scr ns0),some (.lst t3),some (.int 5),some (.int 4),some (.int sp),some (.int (1+r')),some (Ld p q),none,none,none,none]) (by
  simp only [aM,eT,bX] at g3 ⊢
  simp [qE,jl,g3])).trans ?_
 refine (qF (ρ1:=[some (scr ns0),some (.lst t4),some (.int 5),some (.int 4),some (.int sp),some (.int (1+r')),some (Ld p q),some (Wd ws),none,none,none]) (by simp [qE,jl,g4])).trans ?_
 have d5:=zm (own:=[1]) (cap:=[0,1,5]) (nt:=1) (fi:=kG (qv [.vl,.vl] kR (qd (qe 7) (qd (qe 6) qC)))) (g:=gNm 0) (ft:=ftT) (fe:=vj (qd (qe 0) (qd (qv [.vl,.sl 2,.vl] jv (qd (qe 1) (jO (qd (qe 3) qC)))) qC))) (ρ:=[some (scr ns0),some (.lst t4),some (.int 5),some (.int 4),some (.int sp),some (.int (1+r')),some (Ld p q),some (Wd ws),none,none,none]) (ρ1:=[some (scr ns0),some (.lst t4),some (.int 5),some (.int 4),some (.int sp),some (.int (1+r')),some (Ld p q),some (Wd ws),none,none,none]) (ds:=(LS (qu ws p q)).map D.str) (by simp [qE,jl,hll,jK]) (by rw [ay]; exact jj (by omega)) c5
 refine (qF (ρ1:=[some (scr ns0),some (.lst t5),some (.int 5),some (.int 4),some (.int sp),some (.int (1+r')),some (Ld p q),some (Wd ws),some (.dct (bk es)),none,none]) (by
  rw [zL,UK,d5,kz]
  simp only []
  rw [hd]
  rfl)).trans ?_
 refine (qF (ρ1:=[some (scr ns0),some (.lst t5),some (.int 5),some (.int 4),some (.int sp),some (.int (1+r')),some (Ld p q),some (Wd ws),some (.dct (bk es)),some (iD (ke es (qu ws p q) (1+r'))),none]) (by simp [qE,jl,hby,UC])).trans ?_
 have hcd:qbS sp 2:=⟨by omega,by omega⟩
 have hcm:CMul (sp / 2) (1+sp % 2):=.inr ⟨by omega,by omega⟩
 have hri:=iR0 (f:=d2 Ye (d2 yP (qe 4) (dC (.int 2))) (d2 kt (dC (.int 1)) (d2 vW (qe 4) (dC (.int 2))))) (ρ:=[some (scr ns0),some (.lst t5),some (.int 5),some (.int 4),some (.int sp),some (.int (1+r')),some (Ld p q),some (Wd ws),some (.dct (bk es)),some (iD (ke es (qu ws p q) (1+r'))),none]) (ρ1:=[some (scr ns0),some (.lst t5),some (.int 5),some (.int 4),some (.int sp),some (.int (1+r')),some (Ld p q),some (Wd ws),some (.dct (bk es)),some (iD (ke es (qu ws p q) (1+r'))),none]) (k:=m) hcnt.1 (by omega) (by
  simp [yP,vW,Ye,vV,kt,hcd,hcm,hm])
 refine (qF (ρ1:=[some (scr ns0),some (.lst t6),some (.int 5),some (.int 4),some (.int sp),some (.int (1+r')),some (Ld p q),some (Wd ws),some (.dct (bk es)),some (iD ns),x6]) (by rw [kq,hri,kz]; exact e6)).trans ?_
 have z4:4<=sizeLine:=jj (by omega)
 simp [yt,z4,qA]
noncomputable def sg (l:Wk):Int:=if odd l=true then -1 else 1
theorem qaV (k:Nat) (l:Wk):odd (k::l)=!odd l:=by
 unfold odd
 rw [ao]
 by_cases h:l.length % 2=1
 ·rw [decide_eq_true h,decide_eq_false (by omega)]; rfl
 ·rw [decide_eq_false h,decide_eq_true (by omega)]; rfl
theorem qde (k:Nat) (l:Wk):sg (k::l)=- sg l:=by
 unfold sg
 rw [qaV]
 cases odd l <;> rfl
theorem ui (ns:List Int) (t:Int) (a b:Wk):qN ns t (a++b)=qN ns (qN ns t a) b:=eG ..
theorem xo (ns:List Int) (t:Int) (k:Nat) (l:Wk):qN ns t (k::l)=qN ns (nI ns k - t) l:=rfl
theorem wA (ns:List Int):∀ (l:Wk) (t:Int),qN ns t l=qN ns 0 l+sg l * t
 | [],t=>by simp [qN,sg,odd]
 | k::l,t=>by
  have h1:=wA ns l (nI ns k - t)
  have h2:=wA ns l (nI ns k - 0)
  rw [xo,xo,h1,h2,qde,fJ,fJ,Int.neg_mul]
  simp
  omega
theorem KJ (ns:List Int):∀ (l:Wk) (s:Int),qN ns (qN ns s l) l.reverse=s
 | [],s=>rfl
 | k::l,s=>by
  have h:=KJ ns l (nI ns k - s)
  rw [xo,cj,ui,h]
  show nI ns k - (nI ns k - s)=s
  omega
theorem qaW (l:Wk):sg l=1\/sg l=-1:=by
 unfold sg
 split
 ·exact .inr rfl
 ·exact .inl rfl
theorem qe8 {a:Int} (l:Wk):r ∣ sg l * a↔r ∣ a:=by
 rcases qaW l with h | h
 ·rw [h,fq]
 ·rw [h,Int.neg_one_mul,Int.dvd_neg]
theorem mod_iff {a b:Int}:a % r=b % r↔r ∣ a - b:=by rw [Int.emod_eq_emod_iff_emod_sub_eq_zero,Int.dvd_iff_emod_eq_zero]
theorem qaX {a b:Int} (h:r ∣ a - b) (a0:0<=a) (a1:a < r) (b0:0<=b) (b1:b < r):a=b:=by
 have:=mod_iff.mpr h
 rwa [bp a0 a1,bp b0 b1] at this
def Sol (seen:List Pr) (r:Int) (ns:List Int) (v:Str->Int):Prop:=∀ (k:Nat) (p:Pr),seen[k]?=some p->r ∣ v p.1+v p.2 - nI ns k
variable {v:Str->Int}
theorem Path.val (hS:Sol seen r ns v) {ρ:Str} {l:Wk} (h:Path seen ρ l x):r ∣ v x - qN ns (v ρ) l:=by
 induction h with
 | nil=>
  show r ∣ v ρ - v ρ
  rw [Int.sub_self]
  exact ⟨0,by simp⟩
 | snoc hp e hq ih=>
  rename_i l x y k p
  have hk:=hS k p e
  have hsum:r ∣ v x+v y - nI ns k:=by
   rcases hq with rfl | rfl
   ·exact hk
   ·rw [Int.add_comm (v x)]; exact hk
  rw [ui]
  show r ∣ v y - (nI ns k - qN ns (v ρ) l)
  have e1:v y - (nI ns k - qN ns (v ρ) l)=(v x+v y - nI ns k) - (v x - qN ns (v ρ) l):=by omega
  rw [e1]
  exact dm hsum ih
def okS (r:Int) (ns:List Int) (c:Wk) (s:Int):Prop:=r ∣ qN ns s c - s
theorem Jr {c:Wk} (h:odd c=false) (s:Int):okS r ns c s↔r ∣ qN ns 0 c:=by
 unfold okS
 rw [wA,show sg c=1 by unfold sg; rw [h]; rfl,fq,Int.add_sub_cancel]
theorem Js {c:Wk} (h:odd c=true) (s:Int):okS r ns c s↔r ∣ qN ns 0 c - 2 * s:=by
 unfold okS
 rw [wA,show sg c=-1 by unfold sg; rw [h]; rfl,show qN ns 0 c + -1 * s - s=qN ns 0 c - 2 * s by omega]
theorem ZK (W:Wy) (p:Pr) (k:Nat) (r:Int) (ns:List Int) (s:Int):okS r ns (VW W p k).2 s↔r ∣ qN ns s (qJ W p.1).2+qN ns s (qJ W p.2).2 - nI ns k:=by
 unfold okS VW
 simp only []
 rw [ui,ui]
 have h1:=KJ ns (qJ W p.2).2 s
 generalize qN ns s (qJ W p.1).2=A
 generalize qN ns s (qJ W p.2).2=B at h1
 generalize (qJ W p.2).2.reverse=L at h1
 show r ∣ qN ns (nI ns k - A) L - s↔_
 have e:qN ns (nI ns k - A) L - s=sg L * (nI ns k - A - B):=by
  have h2:=wA ns L (nI ns k - A)
  have h3:=wA ns L B
  rw [h1] at h3
  rw [h2,fJ (sg L) (nI ns k - A) B]
  omega
 rw [e,qe8,show nI ns k - A - B=-(A+B - nI ns k) by omega,Int.dvd_neg]
theorem qe9 {k:Nat} {p:Pr} (h:seen[k]?=some p):VW W p k∈CL W 0 seen:=ah.mpr ⟨(p,k),List.mem_zipIdx_iff_getElem?.mpr h,rfl⟩
theorem qdf {c:Ci} (h:c∈CL W 0 seen):∃ (k:Nat) (p:Pr),seen[k]?=some p/\c=VW W p k:=by
 obtain ⟨q,hq,rfl⟩:=ah.mp h
 obtain ⟨p,k⟩:=q
 exact ⟨k,p,List.mem_zipIdx_iff_getElem?.mp hq,rfl⟩
theorem qdg (p:Pr):oth p p.1=p.2:=by unfold oth; rw [if_pos rfl]
theorem KK (S:Sn seen W) {p:Pr} (hp:p∈seen):(qJ W p.1).1=(qJ W p.2).1:=by
 obtain ⟨h1,h2⟩:=vh S.a p hp
 obtain ⟨e',he,e1,e2⟩:=S.C _ (jk h1) p hp (.inl rfl)
 simp only [] at e1 e2
 rw [qdg] at e1
 have:=zl S.w.nd he (jk h2) e1
 rw [this] at e2
 exact e2.symm
theorem qbA (S:Sn seen W) (hS:Sol seen r ns v):∀ c∈CL W 0 seen,okS r ns c.2 (v c.1):=by
 intro c hc
 obtain ⟨k,p,hk,rfl⟩:=qdf hc
 have hp:=aP hk
 obtain ⟨h1,h2⟩:=vh S.a p hp
 have v1:=(S.w.path _ (jk h1)).val hS
 have v2:=(S.w.path _ (jk h2)).val hS
 simp only [] at v1 v2
 rw [<-KK S hp] at v2
 show okS r ns (VW W p k).2 (v (qJ W p.1).1)
 rw [ZK]
 have hs:=hS k p hk
 generalize qN ns (v (qJ W p.1).1) (qJ W p.1).2=A at v1
 generalize qN ns (v (qJ W p.1).1) (qJ W p.2).2=B at v2
 have e:A+B - nI ns k=(v p.1+v p.2 - nI ns k) - (v p.1 - A) - (v p.2 - B):=by omega
 rw [e]
 exact dm (dm hs v1) v2
noncomputable def vO (W:Wy) (r:Int) (ns:List Int) (σ:Str->Int) (x:Str):Int:=qN ns (σ (qJ W x).1) (qJ W x).2 % r
theorem qbB (S:Sn seen W) {σ:Str->Int} (h:∀ c∈CL W 0 seen,okS r ns c.2 (σ c.1)):Sol seen r ns (vO W r ns σ):=by
 intro k p hk
 have hp:=aP hk
 have h1:=h _ (qe9 hk)
 have h1:okS r ns (VW W p k).2 (σ (qJ W p.1).1):=h1
 rw [ZK] at h1
 unfold vO
 rw [<-KK S hp]
 generalize qN ns (σ (qJ W p.1).1) (qJ W p.1).2=A at h1
 generalize qN ns (σ (qJ W p.1).1) (qJ W p.2).2=B at h1
 have d1:r ∣ A - A % r:=c9
 have d2:r ∣ B - B % r:=c9
 have e:A % r+B % r - nI ns k=(A+B - nI ns k) - (A - A % r) - (B - B % r):=by omega
 rw [e]
 exact dm (dm h1 d1) d2
theorem ZL:∀ (C F:List Ci),∀ c∈FO F C,c∈F\/(c∈C/\odd c.2=true)
 | [],F,c,h=>.inl h
 | d::C,F,c,h=>by
  unfold FO at h
  by_cases q:odd d.2=true/\d.1∉kF F
  ·rw [if_pos q] at h
   rcases ZL C _ c h with h | h
   ·rcases aj.mp h with h | h
    ·exact .inl h
    ·rw [au.mp h]
     exact .inr ⟨ai ..,q.1⟩
   ·exact .inr ⟨aa _ h.1,h.2⟩
  ·rw [if_neg q] at h
   rcases ZL C _ c h with h | h
   ·exact .inl h
   ·exact .inr ⟨aa _ h.1,h.2⟩
theorem Jt (h:x∈kF F):(x,uC F x)∈F:=by
 unfold uC
 cases q:F.find? fun c=>decide (c.1=x) with
 | none=>
  obtain ⟨e,he,rfl⟩:=ah.mp h
  have:=dI.mp q e he
  simp at this
 | some c=>
  have h1:=bG q
  have h2:c.1=x:=by simpa using fj q
  rw [<-h2]
  exact h1
theorem qaY (h:x∉kF F):uC F x=[]:=by
 unfold uC
 cases q:F.find? fun c=>decide (c.1=x) with
 | none=>rfl
 | some c=>
  have h1:=bG q
  have h2:c.1=x:=by simpa using fj q
  exact absurd (ah.mpr ⟨c,h1,h2⟩) h
theorem ZM (a b:Wk):odd (a++b)=(odd a != odd b):=by
 unfold odd
 rw [af]
 by_cases h1:a.length % 2=1 <;> by_cases h2:b.length % 2=1
 ·rw [decide_eq_true h1,decide_eq_true h2,decide_eq_false (by omega)]; rfl
 ·rw [decide_eq_true h1,decide_eq_false h2,decide_eq_true (by omega)]; rfl
 ·rw [decide_eq_false h1,decide_eq_true h2,decide_eq_true (by omega)]; rfl
 ·rw [decide_eq_false h1,decide_eq_false h2,decide_eq_false (by omega)]; rfl
theorem zn {c:Wk} (h:odd c=false):Yb c r ns=false↔r ∣ qN ns 0 c:=by
 unfold Yb
 rw [h,if_neg br,Int.dvd_iff_emod_eq_zero]
 simp
theorem ZN {c:Wk} (h:odd c=true):Yb c r ns=false↔¬(r % 2=0/\qN ns 0 c % 2=1):=by
 unfold Yb
 rw [h,if_pos rfl]
 simp
theorem qbC (ns:List Int) (f c:Wk) (h:odd c=true):qN ns 0 (f++c)=qN ns 0 c - qN ns 0 f:=by
 rw [ui,wA,show sg c=-1 by unfold sg; rw [h]; rfl]
 omega
section
abbrev FF (W:Wy) (seen:List Pr):List Ci:=FO [] (CL W 0 seen)
theorem ZO {c:Ci} (h:c∈FF W seen):c∈CL W 0 seen/\odd c.2=true:=by
 rcases ZL _ _ c h with h | h
 ·cases h
 ·exact h
theorem bo_none:BO W seen r ns=none↔∀ c∈CL W 0 seen,(odd c.2=false->r ∣ qN ns 0 c.2)/\(odd c.2=true->¬(r % 2=0/\qN ns 0 c.2 % 2=1)/\r ∣ qN ns 0 c.2 - qN ns 0 (uC (FF W seen) c.1)):=by
 unfold BO
 rw [dI]
 have hk:∀ c∈CL W 0 seen,odd c.2=true->odd (uC (FF W seen) c.1)=true:=fun c hc ho=>(ZO (Jt ((gp _ _).2.2.1 c hc ho))).2
 constructor
 ·intro h c hc
  have h1:Yb c.2 r ns=false:=by simpa using h c (aj.mpr (.inl hc))
  refine ⟨fun ho=>(zn ho).mp h1,fun ho=>⟨(ZN ho).mp h1,?_⟩⟩
  have h2:Yb (uC (FF W seen) c.1++c.2) r ns=false:=by
   have:=h (c.1,uC (FF W seen) c.1++c.2) (aj.mpr (.inr (ah.mpr ⟨c,bK.mpr ⟨hc,by simpa using ho⟩,rfl⟩)))
   simpa using this
  rw [zn (by rw [ZM,hk c hc ho,ho]; rfl),qbC _ _ _ ho] at h2
  exact h2
 ·intro h w hw
  rcases aj.mp hw with hw | hw
  ·cases ho:odd w.2 with
   | false=>simpa using (zn ho).mpr ((h w hw).1 ho)
   | true=>simpa using (ZN ho).mpr ((h w hw).2 ho).1
  ·obtain ⟨c,hc,rfl⟩:=ah.mp hw
   obtain ⟨hc,ho⟩:=bK.mp hc
   have ho:odd c.2=true:=by simpa using ho
   have:Yb (uC (FF W seen) c.1++c.2) r ns=false:=by
    rw [zn (by rw [ZM,hk c hc ho,ho]; rfl),qbC _ _ _ ho]
    exact ((h c hc).2 ho).2
   simpa using this
theorem qdh (S:Sn seen W) (hS:Sol seen r ns v):BO W seen r ns=none:=by
 have hok:=qbA S hS
 rw [bo_none]
 intro c hc
 refine ⟨fun ho=>(Jr ho _).mp (hok c hc),fun ho=>?_⟩
 have h1:=(Js ho _).mp (hok c hc)
 have hm:=Jt ((gp (CL W 0 seen) []).2.2.1 c hc ho)
 obtain ⟨f1,f2⟩:=ZO hm
 have h2:=(Js f2 _).mp (hok _ f1)
 refine ⟨fun ⟨e1,e2⟩=>?_,?_⟩
 ·obtain ⟨m,hm⟩:=h1
  obtain ⟨j,hj⟩:=dP e1
  rw [hj,eN] at hm
  omega
 ·simp only [] at h2
  have e:qN ns 0 c.2 - qN ns 0 (uC (FF W seen) c.1)=(qN ns 0 c.2 - 2 * v c.1) - (qN ns 0 (uC (FF W seen) c.1) - 2 * v c.1):=by omega
  rw [e]
  exact dm h1 h2
end
theorem ZP {t s:Int} (hr:1<=r) (s0:0<=s) (s1:s < r) (hp:¬(r % 2=0/\t % 2=1)):r ∣ t - 2 * s↔s∈(if r % 2=0 then [yN t r,yN t r+r / 2] else [yN t r]):=by
 have h0:0 < r:=by omega
 have t0:=cw t (show r≠0 by omega)
 have t1:=bN t h0
 have hd:r ∣ t - t % r:=c9
 have hpar:r % 2=0->t % r % 2=0:=fun e=>by
  obtain ⟨m,hm⟩:=hd
  obtain ⟨j,hj⟩:=dP e
  have:t % 2=0:=by
   have:=Int.emod_two_eq t
   rcases this with h | h
   ·exact h
   ·exact absurd ⟨e,h⟩ hp
  have e2:r * m=2 * (j * m):=by rw [hj,eN]
  generalize t % r=u at hm ⊢
  omega
 have key:r ∣ t - 2 * s↔(t % r - 2 * s=0\/t % r - 2 * s=-r):=by
  constructor
  ·intro h
   have h2:r ∣ t % r - 2 * s:=by
    have e:t % r - 2 * s=(t - 2 * s) - (t - t % r):=by omega
    rw [e]
    exact dm h hd
   generalize t % r=u at *
   by_cases q:2 * s<=u
   ·refine .inl ?_
    have:=dQ h2
    rwa [bp (by omega) (by omega)] at this
   ·by_cases q2:2 * s<=u+r
    ·refine .inr ?_
     have h3:r ∣ u - 2 * s+r:=eI h2 ⟨1,by simp⟩
     have:=dQ h3
     rw [bp (by omega) (by omega)] at this
     omega
    ·exfalso
     have h3:r ∣ u - 2 * s+r+r:=eI (eI h2 ⟨1,by simp⟩) ⟨1,by simp⟩
     have:=dQ h3
     rw [bp (by omega) (by omega)] at this
     omega
  ·intro h
   have e:t - 2 * s=(t - t % r)+(t % r - 2 * s):=by omega
   rw [e]
   refine eI hd ?_
   rcases h with h | h
   ·rw [h]; exact ⟨0,by simp⟩
   ·rw [h]; exact ⟨-1,by simp⟩
 rw [key]
 unfold yN
 by_cases q:r % 2=0
 ·have hu:=hpar q
  rw [if_pos q,if_pos hu]
  generalize t % r=u at *
  simp only [ac,bb,or_false]
  constructor
  ·rintro (h | h)
   ·exact .inl (by omega)
   ·exact .inr (by omega)
  ·rintro (h | h)
   ·exact .inl (by omega)
   ·exact .inr (by omega)
 ·rw [if_neg q]
  generalize t % r=u at *
  rw [au]
  by_cases q2:u % 2=0
  ·rw [if_pos q2]
   constructor
   ·rintro (h | h) <;> omega
   ·intro h; exact .inl (by omega)
  ·rw [if_neg q2]
   constructor
   ·rintro (h | h) <;> omega
   ·intro h; exact .inr (by omega)
theorem qdi {t:Int} (hr:1<=r):0<=yN t r/\yN t r < r/\(r % 2=0->t % r % 2=0->yN t r+r / 2 < r):=by
 have t0:=cw t (show r≠0 by omega)
 have t1:=bN t (show 0 < r by omega)
 unfold yN
 generalize t % r=u at *
 split <;> refine ⟨by omega,by omega,fun h h2=>by omega⟩
section
abbrev ch (W:Wy) (seen:List Pr) (r:Int) (ns:List Int) (x:Str):List Int:=rW (uC (FF W seen) x) r ns
theorem qaZ (hr:1<=r) (hb:BO W seen r ns=none) (x:Str) (s:Int):s∈ch W seen r ns x↔(0<=s/\s < r)/\∀ c∈CL W 0 seen,c.1=x->okS r ns c.2 s:=by
 have hb':=bo_none.mp hb
 unfold ch rW
 by_cases q:x∈kF (FF W seen)
 ·have hm:=Jt q
  obtain ⟨f1,f2⟩:=ZO hm
  simp only [] at f2
  have hne:uC (FF W seen) x≠[]:=fun z=>by rw [z] at f2; exact absurd f2 (by decide)
  have hf:=(hb' _ f1).2 f2
  simp only [] at hf
  rw [if_neg hne]
  have hT:∀ s,(∀ c∈CL W 0 seen,c.1=x->okS r ns c.2 s)↔r ∣ qN ns 0 (uC (FF W seen) x) - 2 * s:=fun s=>by
   constructor
   ·intro h
    exact (Js f2 s).mp (h _ f1 rfl)
   ·intro h c hc he
    cases ho:odd c.2 with
    | false=>exact (Jr ho s).mpr ((hb' c hc).1 ho)
    | true=>
     have h1:=((hb' c hc).2 ho).2
     rw [he] at h1
     rw [Js ho]
     have e:qN ns 0 c.2 - 2 * s=(qN ns 0 c.2 - qN ns 0 (uC (FF W seen) x))+(qN ns 0 (uC (FF W seen) x) - 2 * s):=by omega
     rw [e]
     exact eI h1 h
  rw [hT s]
  generalize qN ns 0 (uC (FF W seen) x)=t at hf
  have hin:=qdi (t:=t) hr
  have hpar:r % 2=0->t % r % 2=0:=fun e=>by
   obtain ⟨m,hm⟩:r ∣ t - t % r:=c9
   obtain ⟨j,hj⟩:=dP e
   have:t % 2=0:=by
    rcases Int.emod_two_eq t with h | h
    ·exact h
    ·exact absurd ⟨e,h⟩ hf.1
   have e2:r * m=2 * (j * m):=by rw [hj,eN]
   generalize t % r=u at hm ⊢
   omega
  constructor
  ·intro h
   have hs:0<=s/\s < r:=by
    by_cases q2:r % 2=0
    ·rw [if_pos q2] at h
     simp only [ac,bb,or_false] at h
     have:=hin.2.2 q2 (hpar q2)
     rcases h with rfl | rfl
     ·exact ⟨hin.1,hin.2.1⟩
     ·exact ⟨by omega,this⟩
    ·rw [if_neg q2] at h
     rw [au.mp h]
     exact ⟨hin.1,hin.2.1⟩
   exact ⟨hs,(ZP hr hs.1 hs.2 hf.1).mpr h⟩
  ·rintro ⟨hs,h⟩
   exact (ZP hr hs.1 hs.2 hf.1).mp h
 ·rw [qaY q,if_pos rfl]
  constructor
  ·intro h
   obtain ⟨j,hj,rfl⟩:=ah.mp h
   have:=bJ.mp hj
   refine ⟨⟨by omega,by omega⟩,fun c hc he=>?_⟩
   cases ho:odd c.2 with
   | false=>exact (Jr ho _).mpr ((hb' c hc).1 ho)
   | true=>
    exact absurd (by rw [<-he]; exact (gp (CL W 0 seen) []).2.2.1 c hc ho) q
  ·rintro ⟨⟨s0,s1⟩,_⟩
   exact ah.mpr ⟨s.toNat,bJ.mpr (by omega),by omega⟩
theorem qgK (hr:1<=r) (x:Str):(ch W seen r ns x).Nodup:=by
 unfold ch rW
 split
 ·have:(aJ r.toNat).Nodup:=List.nodup_range
  exact eJ _ (fun a b h=>by omega) this
 ·split
  ·refine aI.mpr ⟨fun h=>?_,by simp⟩
   have:=au.mp h
   omega
  ·simp
end
abbrev Ln:=List (Str×Int)
noncomputable def evS (r:Int) (x:Str) (rows:List Ln):List Ln:=rows.flatMap fun l=>(aJ r.toNat).map fun (j:Nat)=>l++[(x,(j:Int))]
noncomputable def EV (r:Int) (rows:List Ln):List Str->List Ln
 | []=>rows
 | x::L=>EV r (evS r x rows) L
variable {rows:List Ln}
theorem Ju (hr:1<=r) {l:Ln}:l∈evS r x rows↔∃ l0∈rows,∃ i:Int,0<=i/\i < r/\l=l0++[(x,i)]:=by
 unfold evS
 rw [eU]
 constructor
 ·rintro ⟨l0,h0,h⟩
  obtain ⟨j,hj,rfl⟩:=ah.mp h
  have:=bJ.mp hj
  exact ⟨l0,h0,j,by omega,by omega,rfl⟩
 ·rintro ⟨l0,h0,i,i0,i1,rfl⟩
  exact ⟨l0,h0,ah.mpr ⟨i.toNat,bJ.mpr (by omega),by rw [Int.toNat_of_nonneg i0]⟩⟩
theorem qbD (hr:1<=r):∀ (L:List Str) (rows:List Ln) (l:Ln),l∈EV r rows L↔∃ l0∈rows,∃ m:Ln,l=l0++m/\qU m=L/\∀ e∈m,0<=e.2/\e.2 < r
 | [],rows,l=>by
  constructor
  ·intro h
   exact ⟨l,h,[],by simp,rfl,by simp⟩
  ·rintro ⟨l0,h0,m,rfl,hk,_⟩
   have:m=[]:=by cases m with
    | nil=>rfl
    | cons a m=>cases hk
   subst this
   rw [aY]
   exact h0
 | x::L,rows,l=>by
  show l∈EV r (evS r x rows) L↔_
  rw [qbD hr L]
  constructor
  ·rintro ⟨l1,h1,m,rfl,hk,hm⟩
   obtain ⟨l0,h0,i,i0,i1,rfl⟩:=(Ju hr).mp h1
   refine ⟨l0,h0,(x,i)::m,by simp,by simp [qU] at hk ⊢; exact hk,fun e he=>?_⟩
   rcases ac.mp he with rfl | he
   ·exact ⟨i0,i1⟩
   ·exact hm e he
  ·rintro ⟨l0,h0,m,rfl,hk,hm⟩
   cases m with
   | nil=>cases hk
   | cons a m=>
    obtain ⟨y,i⟩:=a
    have hk:y::qU m=x::L:=hk
    injection hk with h1 h2
    subst h1
    have:=hm (y,i) (ai ..)
    exact ⟨l0++[(y,i)],(Ju hr).mpr ⟨l0,h0,i,this.1,this.2,rfl⟩,m,by simp,h2,fun e he=>hm e (aa _ he)⟩
theorem qfa (h:rows.Nodup):(evS r x rows).Nodup:=by
 unfold evS
 unfold aX
 rw [db]
 constructor
 ·intro l hl
  have:(aJ r.toNat).Nodup:=List.nodup_range
  exact eJ _ (fun a b h=>fun z=>by
   have:=List.append_cancel_left z
   simp at this
   exact h (by omega)) this
 ·refine cI (fun {a b} hab=>?_) h
  intro y hy z hz e
  obtain ⟨i,_,rfl⟩:=ah.mp hy
  obtain ⟨j,_,rfl⟩:=ah.mp hz
  exact hab (List.append_inj_left' e rfl)
theorem qfb:∀ (L:List Str) (rows:List Ln),rows.Nodup->(EV r rows L).Nodup
 | [],rows,h=>h
 | x::L,rows,h=>qfb L _ (qfa h)
abbrev EV0 (r:Int) (L:List Str):List Ln:=EV r [[]] L
theorem Wc (hr:1<=r) {L:List Str} {l:Ln}:l∈EV0 r L↔qU l=L/\∀ e∈l,0<=e.2/\e.2 < r:=by
 rw [qbD hr]
 constructor
 ·rintro ⟨l0,h0,m,rfl,h⟩
  rw [au.mp h0,bX]
  exact h
 ·intro h
  exact ⟨[],au.mpr rfl,l,rfl,h⟩
theorem wB (f:Str->Int):∀ {L:List Str} {x:Str},x∈L->jq (L.map fun x=>(x,f x)) x=f x
 | [],x,h=>by cases h
 | y::L,x,h=>by
  unfold jq
  rw [aG]
  by_cases q:y=x
  ·subst q
   rw [bC (by simp)]
   rfl
  ·rw [bt (by simpa using q)]
   rcases ac.mp h with h | h
   ·exact absurd h.symm q
   ·exact wB f h
theorem xp:∀ {l:Ln},(qU l).Nodup->l=(qU l).map fun x=>(x,jq l x)
 | [],_=>rfl
 | (y,i)::l,h=>by
  have hn:=aI.mp (show (y::qU l).Nodup from h)
  have ih:=xp hn.2
  show (y,i)::l=(y,jq ((y,i)::l) y)::(qU l).map fun x=>(x,jq ((y,i)::l) x)
  have e1:jq ((y,i)::l) y=i:=by unfold jq; rw [bC (by simp)]; rfl
  have e2:((qU l).map fun x=>(x,jq ((y,i)::l) x))=(qU l).map fun x=>(x,jq l x):=by
   refine dt fun x hx=>?_
   have:y≠x:=fun z=>hn.1 (z ▸ hx)
   show (x,jq ((y,i)::l) x)=_
   unfold jq
   rw [bt (by simpa using this)]
  rw [e1,e2,<-ih]
theorem zo (f:Str->Int) (L:List Str):qU (L.map fun x=>(x,f x))=L:=by
 unfold qU
 rw [bD]
 exact List.map_id' L
theorem Jv {α:Type} [DecidableEq α]:∀ {a b:List α},a.Nodup->(∀ x∈a,x∈b)->a.length<=b.length
 | [],b,_,_=>bq _
 | x::a,b,hn,h=>by
  have hn2:=aI.mp hn
  have hx:=h x (ai ..)
  have ih:=Jv (b:=b.erase x) hn2.2 fun y hy=>(List.mem_erase_of_ne (fun z=>hn2.1 (by rw [<-z]; exact hy))).mpr (h y (aa _ hy))
  rw [List.length_erase_of_mem hx] at ih
  have:=cX hx
  rw [ao]
  omega
variable {β:Type}
theorem ZQ [DecidableEq β] {A:List α} {B:List β} (f:α->β) (hA:A.Nodup) (hf:∀ a∈A,f a∈B) (hi:∀ a∈A,∀ b∈A,f a=f b->a=b):A.length<=B.length:=by
 have hm:(A.map f).Nodup:=by
  unfold aX
  rw [dg]
  refine dE (fun {a b} ha hb hab=>fun z=>hab (hi a ha b hb z)) hA
 have:=Jv hm (b:=B) fun x hx=>by
  obtain ⟨a,ha,rfl⟩:=ah.mp hx
  exact hf a ha
 rwa [ay] at this
noncomputable def PV (c:Str->List Int):List Str->List Ln
 | []=>[[]]
 | x::R=>(c x).flatMap fun s=>(PV c R).map fun l=>(x,s)::l
theorem Ug {γ:Type} (P:List β) (g:α->β->γ):∀ c:List α,(c.flatMap fun s=>P.map (g s)).length=c.length * P.length
 | []=>by simp
 | a::c=>by
  rw [df,af,Ug P g c,ay,ao,eZ]
  omega
theorem ZR (c:Str->List Int):∀ (R:List Str) (t:Int),(R.map fun x=>((x,c x):Rt)).foldl (fun a x=>a * (x.2.length:Int)) t=t * ((PV c R).length:Int)
 | [],t=>by simp [PV]
 | x::R,t=>by
  rw [aG,bW,ZR c R,show PV c (x::R)=(c x).flatMap fun s=>(PV c R).map fun l=>(x,s)::l from rfl,Ug,Int.natCast_mul,eN]
theorem wE (c:Str->List Int):∀ {R:List Str} {l:Ln},l∈PV c R↔qU l=R/\∀ e∈l,e.2∈c e.1
 | [],l=>by
  constructor
  ·intro h
   rw [au.mp h]
   exact ⟨rfl,by simp⟩
  ·rintro ⟨h,_⟩
   cases l with
   | nil=>exact au.mpr rfl
   | cons a l=>cases h
 | x::R,l=>by
  unfold PV
  rw [eU]
  constructor
  ·rintro ⟨s,hs,h⟩
   obtain ⟨l',hl,rfl⟩:=ah.mp h
   obtain ⟨h1,h2⟩:=(wE c).mp hl
   refine ⟨by show x::qU l'=_; rw [h1],fun e he=>?_⟩
   rcases ac.mp he with rfl | he
   ·exact hs
   ·exact h2 e he
  ·rintro ⟨h1,h2⟩
   cases l with
   | nil=>cases h1
   | cons a l=>
    obtain ⟨y,s⟩:=a
    have h1:y::qU l=x::R:=h1
    injection h1 with h3 h4
    subst h3
    exact ⟨s,h2 _ (ai ..),ah.mpr ⟨l,(wE c).mpr ⟨h4,fun e he=>h2 e (aa _ he)⟩,rfl⟩⟩
theorem qfc (c:Str->List Int) (hc:∀ x,(c x).Nodup):∀ R:List Str,(PV c R).Nodup
 | []=>by simp [PV]
 | x::R=>by
  unfold PV
  unfold aX
  rw [db]
  constructor
  ·intro s hs
   exact eJ _ (fun a b h=>fun z=>by injection z with _ z; exact h z) (qfc c hc R)
  ·refine cI (fun {a b} hab=>?_) (hc x)
   intro y hy z hz e
   obtain ⟨l,_,rfl⟩:=ah.mp hy
   obtain ⟨m,_,rfl⟩:=ah.mp hz
   injection e with e _
   injection e with _ e
   exact hab e
section
theorem Uh (hn:kj seen.length r ns) (l:Ln):ke l seen r=ns↔Sol seen r ns (jq l):=by
 have hk:∀ k p,seen[k]?=some p->∃ i,ns[k]?=some i/\nI ns k=i/\0<=i/\i < r:=fun k p h=>by
  have hlt:k < ns.length:=by rw [hn.1]; exact (aA.mp h).1
  refine ⟨ns[k],aC hlt,by unfold nI; rw [aC hlt]; rfl,hn.2 _ (ce hlt)⟩
 constructor
 ·intro h k p hp
  obtain ⟨i,e1,e2,i0,i1⟩:=hk k p hp
  rw [<-h] at e1
  unfold ke at e1
  rw [aF,hp] at e1
  have e1:(jq l p.1+jq l p.2) % r=i:=by simpa using e1
  rw [e2]
  apply mod_iff.mp
  rw [e1,bp i0 i1]
 ·intro h
  apply dW
  intro k
  unfold ke
  rw [aF]
  cases hp:seen[k]? with
  | none=>
   have:ns[k]?=none:=by
    rw [List.getElem?_eq_none_iff] at hp ⊢
    rw [hn.1]
    exact hp
   rw [this]
   rfl
  | some p=>
   obtain ⟨i,e1,e2,i0,i1⟩:=hk k p hp
   have:=mod_iff.mpr (h k p hp)
   rw [e2,bp i0 i1] at this
   rw [e1,<-this]
   rfl
theorem yc (S:Sn seen W) (hy:y∈kW W):(qJ W y).1∈kW W/\qJ W (qJ W y).1=((qJ W y).1,[]):=by
 have h1:=S.R _ (jk hy)
 have h2:(qJ W y).1∈kW W:=ah.mpr ⟨_,h1,rfl⟩
 have:=zl S.w.nd (jk h2) h1 rfl
 refine ⟨h2,?_⟩
 injection this
theorem mem_RT:x∈RT W↔x∈kW W/\(qJ W x).1=x:=by
 unfold RT
 rw [bK,(qR _).mem_iff]
 simp
theorem Yd (S:Sn seen W):(RT W).Nodup:=((qR _).nodup_iff.mpr S.w.nd).filter _
theorem qfd (S:Sn seen W) (hr:1<=r) (hn:kj seen.length r ns):HM W seen r ns=(((EV0 r (LS seen)).filter fun l=>decide (ke l seen r=ns)).length:Int)/\(BO W seen r ns=none↔0 < ((EV0 r (LS seen)).filter fun l=>decide (ke l seen r=ns)).length):=by
 have hA:∀ l,l∈(EV0 r (LS seen)).filter (fun l=>decide (ke l seen r=ns))↔(qU l=LS seen/\∀ e∈l,0<=e.2/\e.2 < r)/\Sol seen r ns (jq l):=fun l=>by
  rw [bK,Wc hr,decide_eq_true_eq,Uh hn]
 have hAn:((EV0 r (LS seen)).filter fun l=>decide (ke l seen r=ns)).Nodup:=(qfb _ _ (by simp)).filter _
 generalize (EV0 r (LS seen)).filter (fun l=>decide (ke l seen r=ns))=A at hA hAn
 have hval:∀ l∈A,∀ x∈LS seen,0<=jq l x/\jq l x < r:=fun l hl x hx=>by
  obtain ⟨⟨h1,h2⟩,_⟩:=(hA l).mp hl
  exact h2 _ (kE (by rw [h1]; exact hx)).1
 unfold HM
 cases hb:BO W seen r ns with
 | some c=>
  have:A=[]:=by
   cases A with
   | nil=>rfl
   | cons l A=>
    have:=qdh S ((hA l).mp (ai ..)).2
    rw [hb] at this
    cases this
  rw [this]
  simp
 | none=>
  have hch:=qaZ hr hb
  have hRL:∀ x∈RT W,x∈LS seen:=fun x hx=>S.w.sub x (mem_RT.mp hx).1
  have hCk:∀ c∈CL W 0 seen,c.1∈RT W:=fun c hc=>by
   obtain ⟨k,p,hk,rfl⟩:=qdf hc
   have hp:=(vh S.a p (aP hk)).1
   obtain ⟨h1,h2⟩:=yc S hp
   exact mem_RT.mpr ⟨h1,by show (qJ W (qJ W p.1).1).1=_; rw [h2]; rfl⟩
  have le1:A.length<=(PV (ch W seen r ns) (RT W)).length:=by
   refine ZQ (fun l=>(RT W).map fun x=>(x,jq l x)) hAn (fun l hl=>?_) (fun a ha b hb2 e=>?_)
   ·refine (wE _).mpr ⟨zo _ _,fun e he=>?_⟩
    obtain ⟨x,hx,rfl⟩:=ah.mp he
    refine (hch x _).mpr ⟨hval l hl x (hRL x hx),fun c hc hcx=>?_⟩
    have:=qbA S ((hA l).mp hl).2 c hc
    rw [hcx] at this
    exact this
   ·obtain ⟨⟨a1,a2⟩,a3⟩:=(hA a).mp ha
    obtain ⟨⟨b1,b2⟩,b3⟩:=(hA b).mp hb2
    have hroot:∀ x∈RT W,jq a x=jq b x:=fun x hx=>by
     have h1:=wB (jq a) hx
     have h2:=wB (jq b) hx
     rw [<-h1,<-h2]
     exact congrArg (fun l=>jq l x) e
    have hall:∀ y∈LS seen,jq a y=jq b y:=fun y hy=>by
     have hyk:=S.a y hy
     obtain ⟨r1,r2⟩:=yc S hyk
     have hr':(qJ W y).1∈RT W:=mem_RT.mpr ⟨r1,by rw [r2]⟩
     have v1:=(S.w.path _ (jk hyk)).val a3
     have v2:=(S.w.path _ (jk hyk)).val b3
     simp only [] at v1 v2
     rw [hroot _ hr'] at v1
     have h1:=hval a ha y hy
     have h2:=hval b hb2 y hy
     refine qaX ?_ h1.1 h1.2 h2.1 h2.2
     have e1:jq a y - jq b y=(jq a y - qN ns (jq b (qJ W y).1) (qJ W y).2) - (jq b y - qN ns (jq b (qJ W y).1) (qJ W y).2):=by omega
     rw [e1]
     exact dm v1 v2
    have hnd:(qU a).Nodup:=by rw [a1]; exact Wa _
    have hnd2:(qU b).Nodup:=by rw [b1]; exact Wa _
    rw [xp hnd,xp hnd2,a1,b1]
    exact dt fun y hy=>by rw [hall y hy]
  have le2:(PV (ch W seen r ns) (RT W)).length<=A.length:=by
   refine ZQ (fun l=>(LS seen).map fun x=>(x,vO W r ns (jq l) x)) (qfc _ (fun x=>qgK hr x) _) (fun l hl=>?_) (fun a ha b hb2 e=>?_)
   ·obtain ⟨l1,l2⟩:=(wE _).mp hl
    have hok:∀ c∈CL W 0 seen,okS r ns c.2 (jq l c.1):=fun c hc=>by
     have:=l2 _ (kE (by rw [l1]; exact hCk c hc)).1
     exact ((hch _ _).mp this).2 c hc rfl
    have hs:=qbB S hok
    refine (hA _).mpr ⟨⟨zo _ _,fun e he=>?_⟩,fun k p hk=>?_⟩
    ·obtain ⟨x,_,rfl⟩:=ah.mp he
     exact ⟨cw _ (by omega),bN _ (by omega)⟩
    ·have hp:=aP hk
     have m1:p.1∈LS seen:=mem_LS.mpr ⟨p,hp,.inl rfl⟩
     have m2:p.2∈LS seen:=mem_LS.mpr ⟨p,hp,.inr rfl⟩
     rw [wB (vO W r ns (jq l)) m1,wB (vO W r ns (jq l)) m2]
     exact hs k p hk
   ·obtain ⟨a1,a2⟩:=(wE _).mp ha
    obtain ⟨b1,b2⟩:=(wE _).mp hb2
    have hrt:∀ x∈RT W,jq a x=jq b x:=fun x hx=>by
     have m:=hRL x hx
     have h1:=wB (vO W r ns (jq a)) m
     have h2:=wB (vO W r ns (jq b)) m
     have h3:vO W r ns (jq a) x=vO W r ns (jq b) x:=by
      rw [<-h1,<-h2]
      exact congrArg (fun l=>jq l x) e
     obtain ⟨k1,k2⟩:=mem_RT.mp hx
     obtain ⟨_,r2⟩:=yc S k1
     rw [k2] at r2
     unfold vO at h3
     rw [r2] at h3
     have h3:jq a x % r=jq b x % r:=h3
     have c1:=((hch x _).mp (a2 _ (kE (by rw [a1]; exact hx)).1)).1
     have c2:=((hch x _).mp (b2 _ (kE (by rw [b1]; exact hx)).1)).1
     rwa [bp c1.1 c1.2,bp c2.1 c2.2] at h3
    have hnd:(qU a).Nodup:=by rw [a1]; exact Yd S
    have hnd2:(qU b).Nodup:=by rw [b1]; exact Yd S
    rw [xp hnd,xp hnd2,a1,b1]
    exact dt fun y hy=>by rw [hrt y hy]
  have heq:A.length=(PV (ch W seen r ns) (RT W)).length:=Nat.le_antisymm le1 le2
  have hpos:0 < (PV (ch W seen r ns) (RT W)).length:=by
   have hl:((RT W).map fun x=>(x,((ch W seen r ns x).head?).getD 0))∈PV (ch W seen r ns) (RT W):=(wE _).mpr ⟨zo _ _,fun e he=>by
    obtain ⟨x,_,rfl⟩:=ah.mp he
    show ((ch W seen r ns x).head?).getD 0∈ch W seen r ns x
    have hne:ch W seen r ns x≠[]:=by
     unfold ch rW
     split
     ·intro z
      have:=congrArg fm z
      simp at this
      omega
     ·split <;> simp
    cases hc:ch W seen r ns x with
    | nil=>exact absurd hc hne
    | cons a l=>exact ai ..⟩
   exact cX hl
  refine ⟨?_,fun _=>by rw [heq]; exact hpos,fun _=>rfl⟩
  have:=ZR (ch W seen r ns) (RT W) 1
  rw [fq,<-heq] at this
  exact this
end
noncomputable def rD (rows:List Ln):List D:=rows.map fun l=>.tup (prL l)
theorem KL:(1100000:Nat)<=sizeLine:=by rw [sizeLine_eq]; decide
theorem iR1 (h:f ρ=.ok (.int n,ρ1)) (hn:n<=2000):jw f ρ=.ok ((aJ n).map fun (j:Nat)=>.int j,ρ1):=by
 rw [iR0 (by omega) (by omega) h,Int.toNat_natCast]
 simp [xx]
theorem qdj (hr:1<=r) (h9:r<=99) (l:Ln) (hl:l.length<=50) (x:Str) (a b c d e:Option D) :
  jC [5] 1 [6,4] (jw (qe 2)) (gNm 0) ftT (d2 kt (qe 1) (vj (qd (vj (qd (qe 2) (qd (qe 0) qC))) qC))) [a,b,some (.int r),c,some (.str x),d,some (.tup (prL l))]=.ok (.lst (rD ((aJ r.toNat).map fun (j:Nat)=>l++[(x,(j:Int))])),[a,b,some (.int r),c,some (.str x),d,some (.tup (prL l))]):=by
 obtain ⟨n,rfl⟩:=cT (by omega:0<=r)
 have hri:=iR1 (f:=qe 2) (ρ:=[a,b,some (.int (n:Nat)),c,some (.str x),d,some (.tup (prL l))]) (ρ1:=[a,b,some (.int (n:Nat)),c,some (.str x),d,some (.tup (prL l))]) (n:=n) rfl (by omega)
 have z1:1<=sizeLine:=jj (by omega)
 have z2:2<=sizeLine:=jj (by omega)
 have hz:(prL l).length+1<=sizeLine:=by simp [prL]; exact jj (by omega)
 have:=Zu (own:=[5]) (cap:=[6,4]) (fi:=jw (qe 2)) (fe:=d2 kt (qe 1) (vj (qd (vj (qd (qe 2) (qd (qe 0) qC))) qC))) (fun d=>match d with | .int j=>.tup (prL (l++[(x,j)])) | d=>d) (by decide) hri (by simp; exact jj (by omega)) (fun d hd=>by
  obtain ⟨j,hj,rfl⟩:=ah.mp hd
  simp [kt,z1,z2,hz]
  simp [prL])
 rw [this,bD]
 unfold rD
 rw [bD]
 rfl
abbrev evB:Sl->Out (Fl×Sl):=(kD (zz 5 Xk (jC [5] 1 [6,4] (jw (qe 2)) (gNm 0) ftT (d2 kt (qe 1) (vj (qd (vj (qd (qe 2) (qd (qe 0) qC))) qC))))))
theorem qfe (hr:1<=r) (h9:r<=99) (x:Str) (a b c:Option D):∀ (rows acc:List Ln) (y:Option D),(∀ l∈rows,l.length<=50)->acc.length+rows.length * r.toNat<=1100000 ->
  ∃ y',vk (gNm 6) evB (rD rows) [a,b,some (.int r),c,some (.str x),some (.lst (rD acc)),y]=.ok (.nx,[a,b,some (.int r),c,some (.str x),some (.lst (rD (acc++evS r x rows))),y'])
 | [],acc,y,_,_=>⟨y,by simp [rD,evS,vk]⟩
 | l::rows,acc,y,hl,hz=>by
  rw [ao,eZ] at hz
  have hlen:((aJ r.toNat).map fun (j:Nat)=>l++[(x,(j:Int))]).length=r.toNat:=by simp
  obtain ⟨y',ih⟩:=qfe hr h9 x a b c rows (acc++(aJ r.toNat).map fun (j:Nat)=>l++[(x,(j:Int))]) (some (.tup (prL l))) (fun m hm=>hl m (aa _ hm)) (by rw [af,hlen]; omega)
  have ec:=qdj hr h9 l (hl l (ai ..)) x a b c (some (.lst (rD acc))) none
  have hs:(rD acc).length+(rD ((aJ r.toNat).map fun (j:Nat)=>l++[(x,(j:Int))])).length<=sizeLine:=by
   unfold rD
   rw [ay,ay,hlen]
   exact be (by omega) KL
  refine ⟨y',cE (vB (d:=.tup (prL l)) (ρ1:=[a,b,some (.int r),c,some (.str x),some (.lst (rD acc)),some (.tup (prL l))]) rfl ?_) (cE ih ?_)⟩
  ·generalize hG:rD ((aJ r.toNat).map fun (j:Nat)=>l++[(x,(j:Int))])=G at ec hs
   have hA:rD (acc++(aJ r.toNat).map fun (j:Nat)=>l++[(x,(j:Int))])=rD acc++G:=by rw [<-hG]; simp [rD]
   rw [hA]
   unfold evB
   have hi:wQ ([a,b,some (.int r),c,some (.str x),some (.lst (rD acc)),some (.tup (prL l))]:Sl)[5]?=true:=rfl
   rw [qam,qcD,if_pos hi,ec,kz]
   simp only [dN,dO]
   simp [Xk,hs]
  ·rw [show evS r x (l::rows)=((aJ r.toNat).map fun (j:Nat)=>l++[(x,(j:Int))])++evS r x rows from df,aM]
theorem ZS (r:Int) (x:Str) (rows:List Ln):(evS r x rows).length=rows.length * r.toNat:=by
 unfold evS
 have:=Ug (aJ r.toNat) (fun (l:Ln) (j:Nat)=>l++[(x,(j:Int))]) rows
 rw [cm] at this
 exact this
abbrev evO:Sl->Out (Fl×Sl):=(qW (jE 5 (wL qC))
  (qW (gA (kG (qe 3)) (gNm 6)
  (kD (zz 5 Xk (jC [5] 1 [6,4] (jw (qe 2)) (gNm 0) ftT (d2 kt (qe 1) (vj (qd (vj (qd (qe 2) (qd (qe 0) qC))) qC)))))))
  (jE 3 (qe 5))))
theorem qbE (hr:1<=r) (h9:r<=99) (a b:Option D):∀ (L:List Str) (rows:List Ln) (y x5 x6:Option D) (n:Nat),(∀ l∈rows,l.length<=n)->n+L.length<=50->rows.length * r.toNat ^ L.length<=1100000 ->
  ∃ y' x5' x6',vk (gNm 4) evO (L.map D.str) [a,b,some (.int r),some (.lst (rD rows)),y,x5,x6]=.ok (.nx,[a,b,some (.int r),some (.lst (rD (EV r rows L))),y',x5',x6'])
 | [],rows,y,x5,x6,n,_,_,_=>⟨y,x5,x6,rfl⟩
 | x::L,rows,y,x5,x6,n,hl,hn,hz=>by
  rw [ao] at hn hz
  have hp:1<=r.toNat:=by omega
  have hpow:1<=r.toNat ^ L.length:=Nat.one_le_pow _ _ (by omega)
  have hz1:rows.length * r.toNat * r.toNat ^ L.length<=1100000:=by rw [Nat.mul_assoc,<-Nat.pow_succ']; exact hz
  have hz2:rows.length * r.toNat<=1100000:=be (Nat.le_mul_of_pos_right _ hpow) hz1
  obtain ⟨y6,e1⟩:=qfe hr h9 x a b (some (.lst (rD rows))) rows [] x6 (fun l hl2=>by have:=hl l hl2; omega) (by simpa using hz2)
  obtain ⟨y',x5',x6',ih⟩:=qbE hr h9 a b L (evS r x rows) (some (.str x)) (some (.lst (rD (evS r x rows)))) y6 (n+1) (fun l hl2=>by
   obtain ⟨l0,h0,i,_,_,rfl⟩:=(Ju hr).mp hl2
   have:=hl l0 h0
   rw [af]
   simp
   omega) (by omega) (by rw [ZS]; exact hz1)
  refine ⟨y',x5',x6',cE (vB (ρ1:=[a,b,some (.int r),some (.lst (rD rows)),some (.str x),x5,x6]) rfl ?_) ih⟩
  unfold evO
  rw [Gf (ρ1:=[a,b,some (.int r),some (.lst (rD rows)),some (.str x),some (.lst []),x6]) (by simp)]
  rw [Gf (ρ1:=[a,b,some (.int r),some (.lst (rD rows)),some (.str x),some (.lst (rD (evS r x rows))),y6]) (by
   rw [kq,show kG (qe 3) [a,b,some (.int r),some (.lst (rD rows)),some (.str x),some (.lst []),x6]=.ok (rD rows,[a,b,some (.int r),some (.lst (rD rows)),some (.str x),some (.lst []),x6]) from rfl,kz]
   exact e1)]
  simp
theorem qa0 (hw:jo ws) (hl:Jx p q) (hr:1<=r) (h9:r<=99) (hz:r.toNat ^ (LS (qu ws p q)).length<=1100000):zd [Wd ws,Ld p q,.int r]=.ok (.lst (rD (EV0 r (LS (qu ws p q)))),[.non,.non,.non]):=by
 have h1:=uJ hw hl
 have hln:=Zx hw p q
 obtain ⟨y',x5,x6,e⟩:=qbE hr h9 (some (Wd ws)) (some (Ld p q)) (LS (qu ws p q)) [[]] none none none 0 (by simp) (by omega) (by simpa using hz)
 have z1:1<=sizeLine:=jj (by omega)
 refine runD_ap.trans ?_
 unfold QQ
 rw [show qy zc [Wd ws,Ld p q,.int r]=[some (Wd ws),some (Ld p q),some (.int r),none,none,none,none] from rfl]
 refine (qF (ρ1:=[some (Wd ws),some (Ld p q),some (.int r),some (.lst (rD [[]])),none,none,none]) (by simp [z1,rD,prL])).trans ?_
 refine (qF (ρ1:=[some (Wd ws),some (Ld p q),some (.int r),some (.lst (rD (EV0 r (LS (qu ws p q))))),y',x5,x6]) (by
  rw [kq,show kG (qv [.vl,.vl] kR (qd (qe 0) (qd (qe 1) qC))) [some (Wd ws),some (Ld p q),some (.int r),some (.lst (rD [[]])),none,none,none]=.ok ((LS (qu ws p q)).map D.str,[some (Wd ws),some (Ld p q),some (.int r),some (.lst (rD [[]])),none,none,none]) by simp [qE,jl,h1,jK],kz]
  exact e)).trans ?_
 simp [qA]
theorem gu:∀ (a b:List Int),vX (eqN 7) (a.map D.int) (b.map D.int)=some (decide (a.take (min a.length b.length)=b.take (min a.length b.length)))
 | [],b=>by simp [vX]
 | a::l,[]=>by simp [vX]
 | a::l,b::m=>by
  have ih:=gu l m
  simp only [aG,vX,ih,eqN,eqS,ao,Nat.succ_eq_add_one,show min (l.length+1) (m.length+1)=min l.length m.length+1 by omega,List.take_succ_cons]
  by_cases h:a=b <;> simp [h]
theorem qa1 (a b:List Int):eqD (nD a) (nD b)=.ok (.bl (decide (a=b))):=by
 by_cases h:a.length=b.length
 ·have e:=gu a b
  rw [h,Nat.min_self,List.take_length,<-h,List.take_length] at e
  simp [eqD,eqN,h,e]
 ·have hne:a≠b:=fun z=>h (by rw [z])
  simp [eqD,eqN,h,hne,gu]
abbrev duT:Sl->Out (Bool×Sl):=jg (d2 eqD (qv [.vl,.vl,.vl,.vl] XZ (qd (qe 2) (qd (qe 3) (qd (qe 4) (qd (d1 UE (qe 0)) qC))))) (qe 1))
theorem ZT (hw:jo ws) (hl:Jx p q) (hr:1<=r) (ns:List Int):∀ (rows:List Ln) (x:Option D),(∀ l∈rows,qU l=LS (qu ws p q)) ->
  ∃ x',jx (gNm 0) duT (qe 0) (rD rows) [x,some (nD ns),some (Wd ws),some (Ld p q),some (.int r)]=.ok (rD (rows.filter fun l=>decide (ke l (qu ws p q) r=ns)),[x',some (nD ns),some (Wd ws),some (Ld p q),some (.int r)])
 | [],x,_=>⟨x,rfl⟩
 | l::rows,x,h=>by
  have hk:=h l (ai ..)
  obtain ⟨x',ih⟩:=ZT hw hl hr ns rows (some (.tup (prL l))) fun m hm=>h m (aa _ hm)
  have hd:=qc2 (l:=l) (by rw [hk]; exact Wa _)
  have hby:=KI hw hl (r:=r) (by omega) (l:=l) (by rw [hk]; exact fun x hx=>hx)
  rw [Uf] at hby
  have he:=qa1 (ke l (qu ws p q) r) ns
  have e0:rD (l::rows)=.tup (prL l)::rD rows:=rfl
  refine ⟨x',?_⟩
  rw [e0]
  by_cases qq:ke l (qu ws p q) r=ns
  ·rw [List.filter_cons_of_pos (by simpa using qq)]
   rw [decide_eq_true qq] at he
   simp [jx,ym,hd,qE,jl,hby,he,ih]
   rfl
  ·rw [List.filter_cons_of_neg (by simpa using qq)]
   rw [decide_eq_false qq] at he
   simp [jx,ym,hd,qE,jl,hby,he,ih]
theorem qgL (l:List Pr):(LS l).length<=2 * l.length:=by
 have:=VV (a:=LS l) (b:=l.map (·.1)++l.map (·.2)) (Wa l) fun x hx=>by
  obtain ⟨p,hp,h⟩:=mem_LS.mp hx
  rcases h with rfl | rfl
  ·exact aj.mpr (.inl (ah.mpr ⟨p,hp,rfl⟩))
  ·exact aj.mpr (.inr (ah.mpr ⟨p,hp,rfl⟩))
 rw [af,ay,ay] at this
 omega
noncomputable def ltL (a b:Ln):Bool:=ltZ (a.map (·.2)) (b.map (·.2))
theorem Jw:∀ a b:List Int,ltZ a b=true->ltZ b a=false
 | [],[],h=>by simp [ltZ] at h
 | [],_::_,_=>rfl
 | _::_,[],h=>by simp [ltZ] at h
 | x::a,y::b,h=>by
  unfold ltZ at h ⊢
  by_cases q:x=y
  ·rw [if_pos q] at h
   rw [if_pos q.symm]
   exact Jw a b h
  ·rw [if_neg q] at h
   rw [if_neg fun z=>q z.symm]
   have:=of_decide_eq_true h
   exact decide_eq_false (by omega)
theorem ZU:∀ (a b:List Int) (i j:Int),a.length=b.length->ltZ a b=true->ltZ (a++[i]) (b++[j])=true
 | [],[],_,_,_,h=>by simp [ltZ] at h
 | [],_::_,_,_,h,_=>by cases h
 | _::_,[],_,_,h,_=>by cases h
 | x::a,y::b,i,j,hl,h=>by
  unfold ltZ at h
  show (if x=y then ltZ (a++[i]) (b++[j]) else decide (x < y))=true
  by_cases q:x=y
  ·rw [if_pos q] at h ⊢
   exact ZU a b i j (by simpa using hl) h
  ·rw [if_neg q] at h ⊢
   exact h
theorem Ui:∀ (a:List Int) (i j:Int),i < j->ltZ (a++[i]) (a++[j])=true
 | [],i,j,h=>by
  show (if i=j then _ else decide (i < j))=true
  rw [if_neg (by omega)]
  exact decide_eq_true h
 | x::a,i,j,h=>by
  show (if x=x then ltZ (a++[i]) (a++[j]) else _)=true
  rw [if_pos rfl]
  exact Ui a i j h
theorem KM (f g:Str->Int) (x:Str) (hx:f x < g x) (L2:List Str):∀ L1:List Str,(∀ y∈L1,f y=g y)->ltZ ((L1++x::L2).map f) ((L1++x::L2).map g)=true
 | [],_=>by
  show (if f x=g x then _ else decide (f x < g x))=true
  rw [if_neg (by omega)]
  exact decide_eq_true hx
 | y::L1,h=>by
  show (if f y=g y then ltZ ((L1++x::L2).map f) ((L1++x::L2).map g) else _)=true
  rw [if_pos (h y (ai ..))]
  exact KM f g x hx L2 L1 fun z hz=>h z (aa _ hz)
theorem qbF (f g:Str->Int):∀ R:List Str,ltZ (R.map f) (R.map g)=true->∃ R1 x R2,R=R1++x::R2/\(∀ y∈R1,f y=g y)/\f x < g x
 | [],h=>by simp [ltZ] at h
 | x::R,h=>by
  have h:(if f x=g x then ltZ (R.map f) (R.map g) else decide (f x < g x))=true:=h
  by_cases q:f x=g x
  ·rw [if_pos q] at h
   obtain ⟨R1,y,R2,e,h1,h2⟩:=qbF f g R h
   refine ⟨x::R1,y,R2,by rw [e]; rfl,fun z hz=>?_,h2⟩
   rcases ac.mp hz with rfl | hz
   ·exact q
   ·exact h1 z hz
  ·rw [if_neg q] at h
   exact ⟨[],x,R,rfl,(fun y hz=>by cases hz),of_decide_eq_true h⟩
theorem qff (hl:∀ l∈rows,l.length=n) (h:rows.Pairwise fun a b=>ltL a b=true):(evS r x rows).Pairwise fun a b=>ltL a b=true:=by
 unfold evS
 rw [db]
 constructor
 ·intro l _
  refine dg.mpr (cI (fun {i j} hij=>?_) List.pairwise_lt_range)
  unfold ltL
  rw [cu,cu]
  exact Ui _ _ _ (by show (i:Int) < (j:Int); omega)
 ·refine dE (fun {a b} ha hb hab=>?_) h
  intro y hy z hz
  obtain ⟨i,_,rfl⟩:=ah.mp hy
  obtain ⟨j,_,rfl⟩:=ah.mp hz
  unfold ltL at hab ⊢
  rw [cu,cu]
  exact ZU _ _ _ _ (by rw [ay,ay,hl a ha,hl b hb]) hab
theorem qfg (hr:1<=r):∀ (L:List Str) (n:Nat) (rows:List Ln),(∀ l∈rows,l.length=n)->(rows.Pairwise fun a b=>ltL a b=true)->(EV r rows L).Pairwise fun a b=>ltL a b=true
 | [],_,_,_,h=>h
 | x::L,n,rows,hl,h=>qfg hr L (n+1) (evS r x rows) (fun l h'=>by
  obtain ⟨l0,h0,i,_,_,rfl⟩:=(Ju hr).mp h'
  rw [af,hl l0 h0]
  rfl) (qff hl h)
theorem qfh (c:Str->List Int) (hc:∀ x,(c x).Pairwise (· < ·)):∀ R:List Str,(PV c R).Pairwise fun a b=>ltL a b=true
 | []=>by simp [PV]
 | x::R=>by
  have ih:=qfh c hc R
  unfold PV
  rw [db]
  constructor
  ·intro s _
   refine dg.mpr (cI (fun {a b} hab=>?_) ih)
   show (if s=s then ltZ (a.map (·.2)) (b.map (·.2)) else _)=true
   rw [if_pos rfl]
   exact hab
  ·refine cI (fun {s t} hst=>?_) (hc x)
   intro y hy z hz
   obtain ⟨a,_,rfl⟩:=ah.mp hy
   obtain ⟨b,_,rfl⟩:=ah.mp hz
   show (if s=t then _ else decide (s < t))=true
   rw [if_neg (by omega)]
   exact decide_eq_true hst
theorem qbG:∀ a b:List Ln,(a.Pairwise fun x y=>ltL x y=true)->(b.Pairwise fun x y=>ltL x y=true)->(∀ x∈a,x∈b)->b.length<=a.length->a=b
 | [],b,_,_,_,hl=>(List.eq_nil_of_length_eq_zero (by simpa using hl)).symm
 | x::a,[],_,_,h,_=>by have:=h x (ai ..); cases this
 | x::a,y::b,ha,hb,h,hl=>by
  have irr:∀ l:Ln,ltL l l=true->False:=fun l q=>by
   have:=Jw _ _ q
   unfold ltL at q
   rw [q] at this
   cases this
  have asy:∀ l m:Ln,ltL l m=true->ltL m l=true->False:=fun l m q q'=>by
   have:=Jw _ _ q
   unfold ltL at q'
   rw [q'] at this
   cases this
  have ha2:=aS.mp ha
  have hb2:=aS.mp hb
  by_cases q:x=y
  ·subst q
   rw [qbG a b ha2.2 hb2.2 (fun z hz=>by
    rcases ac.mp (h z (aa _ hz)) with e | e
    ·exact (irr x (by have:=ha2.1 z hz; rw [e] at this; exact this)).elim
    ·exact e) (by simpa using hl)]
  ·have hx:x∈b:=by
    rcases ac.mp (h x (ai ..)) with e | e
    ·exact absurd e q
    ·exact e
   have hyx:=hb2.1 x hx
   have hnd:(x::a).Nodup:=ha.imp fun {s t} hab=>fun e=>irr s (by rw [<-e] at hab; exact hab)
   have:=Jv hnd (b:=b) fun z hz=>by
    rcases ac.mp (h z hz) with e | e
    ·rcases ac.mp hz with e2 | e2
     ·exact absurd (e2.symm.trans e) q
     ·exact (asy x y (by have:=ha2.1 z e2; rw [e] at this; exact this) hyx).elim
    ·exact e
   rw [ao] at hl this
   rw [ao] at hl
   omega
noncomputable def bl (W:Wy) (r:Int) (ns:List Int) (L:List Str) (l:Ln):Ln:=L.map fun x=>(x,vO W r ns (jq l) x)
section
theorem qgM (S:Sn seen W) (hr:1<=r) (hn:kj seen.length r ns) (hb:BO W seen r ns=none) {l:Ln} (hl:l∈PV (ch W seen r ns) (RT W)):bl W r ns (LS seen) l∈(EV0 r (LS seen)).filter fun l=>decide (ke l seen r=ns):=by
 have hch:=qaZ hr hb
 have hCk:∀ c∈CL W 0 seen,c.1∈RT W:=fun c hc=>by
  obtain ⟨k,p,hk,rfl⟩:=qdf hc
  have hp:=(vh S.a p (aP hk)).1
  obtain ⟨h1,h2⟩:=yc S hp
  exact mem_RT.mpr ⟨h1,by show (qJ W (qJ W p.1).1).1=_; rw [h2]; rfl⟩
 obtain ⟨l1,l2⟩:=(wE _).mp hl
 have hok:∀ c∈CL W 0 seen,okS r ns c.2 (jq l c.1):=fun c hc=>by
  have:=l2 _ (kE (by rw [l1]; exact hCk c hc)).1
  exact ((hch _ _).mp this).2 c hc rfl
 have hs:=qbB S hok
 rw [bK,Wc hr,decide_eq_true_eq,Uh hn]
 unfold bl
 refine ⟨⟨zo _ _,fun e he=>?_⟩,fun k p hk=>?_⟩
 ·obtain ⟨x,_,rfl⟩:=ah.mp he
  exact ⟨cw _ (by omega),bN _ (by omega)⟩
 ·have hp:=aP hk
  have m1:p.1∈LS seen:=mem_LS.mpr ⟨p,hp,.inl rfl⟩
  have m2:p.2∈LS seen:=mem_LS.mpr ⟨p,hp,.inr rfl⟩
  rw [wB (vO W r ns (jq l)) m1,wB (vO W r ns (jq l)) m2]
  exact hs k p hk
theorem KN {l:Ln} (h:(qU l).Nodup):l.map (·.2)=(qU l).map (jq l):=by
 have e:=xp h
 conv=>lhs; rw [e]
 rw [bD]
 rfl
theorem qgN (S:Sn seen W) (hr:1<=r) (hb:BO W seen r ns=none) {l m:Ln} (hl:l∈PV (ch W seen r ns) (RT W)) (hm:m∈PV (ch W seen r ns) (RT W)) (h:ltL l m=true):ltL (bl W r ns (LS seen) l) (bl W r ns (LS seen) m)=true:=by
 have hch:=qaZ hr hb
 obtain ⟨a1,a2⟩:=(wE _).mp hl
 obtain ⟨b1,b2⟩:=(wE _).mp hm
 have hnd:(qU l).Nodup:=by rw [a1]; exact Yd S
 have hnd2:(qU m).Nodup:=by rw [b1]; exact Yd S
 unfold ltL at h ⊢
 rw [KN hnd,KN hnd2,a1,b1] at h
 obtain ⟨R1,x,R2,hR,h1,h2⟩:=qbF (jq l) (jq m) (RT W) h
 have hxR:x∈RT W:=by rw [hR]; exact aK _ (ai ..)
 obtain ⟨k1,k2⟩:=mem_RT.mp hxR
 have hxL:x∈LS seen:=S.w.sub x k1
 obtain ⟨L1,L2,hL⟩:=List.append_of_mem hxL
 have hso:(LS seen).Pairwise leS:=by unfold LS; exact ji _
 have hnL:(LS seen).Nodup:=Wa _
 have hsoR:(RT W).Pairwise leS:=(ji _).filter _
 have hv:∀ (a:Ln),(bl W r ns (LS seen) a).map (·.2)=(LS seen).map (vO W r ns (jq a)):=fun a=>by
  unfold bl
  rw [bD]
  rfl
 rw [hv,hv,hL]
 refine KM _ _ x ?_ L2 L1 fun y hy=>?_
 ·obtain ⟨_,r2⟩:=yc S k1
  rw [k2] at r2
  unfold vO
  rw [r2]
  show jq l x % r < jq m x % r
  have c1:=((hch x _).mp (a2 _ (kE (by rw [a1]; exact hxR)).1)).1
  have c2:=((hch x _).mp (b2 _ (kE (by rw [b1]; exact hxR)).1)).1
  rw [bp c1.1 c1.2,bp c2.1 c2.2]
  exact h2
 ·have hyL:y∈LS seen:=by rw [hL]; exact bP _ hy
  rw [hL] at hso hnL
  have hyx:leS y x:=(List.pairwise_append.mp hso).2.2 y hy x (ai ..)
  have hne:y≠x:=(bV.mp hnL).2.2 y hy x (ai ..)
  have hyk:=S.a y hyL
  obtain ⟨r1,r2⟩:=yc S hyk
  have hrt:(qJ W y).1∈RT W:=mem_RT.mpr ⟨r1,by rw [r2]⟩
  have hry:leS (qJ W y).1 y:=S.m _ (jk hyk)
  have hrx:leS (qJ W y).1 x:=zF hry hyx
  have hrn:(qJ W y).1≠x:=fun z=>hne (Qx hyx (by rw [<-z]; exact hry))
  have hin:(qJ W y).1∈R1:=by
   have hm2:=hrt
   rw [hR] at hm2 hsoR
   rcases aj.mp hm2 with e | e
   ·exact e
   ·rcases ac.mp e with e | e
    ·exact absurd e hrn
    ·exact absurd (Qx hrx ((aS.mp (List.pairwise_append.mp hsoR).2.1).1 _ e)) hrn
  unfold vO
  rw [h1 _ hin]
end
section
theorem qgO (hr:1<=r) (x:Str):(ch W seen r ns x).Pairwise (· < ·):=by
 unfold ch rW
 split
 ·exact dg.mpr (cI (fun {a b} h=>by show (a:Int) < (b:Int); omega) List.pairwise_lt_range)
 ·split
  ·refine aS.mpr ⟨fun y hy=>?_,by simp⟩
   rw [au.mp hy]
   omega
  ·simp
theorem ZV (S:Sn seen W) (hr:1<=r) (hn:kj seen.length r ns) (hb:BO W seen r ns=none):(EV0 r (LS seen)).filter (fun l=>decide (ke l seen r=ns))=(PV (ch W seen r ns) (RT W)).map (bl W r ns (LS seen))/\HM W seen r ns=((PV (ch W seen r ns) (RT W)).length:Int):=by
 have hH:HM W seen r ns=((PV (ch W seen r ns) (RT W)).length:Int):=by
  have:=ZR (ch W seen r ns) (RT W) 1
  rw [fq] at this
  unfold HM
  rw [hb]
  exact this
 obtain ⟨c1,_⟩:=qfd S hr hn
 refine ⟨(qbG _ _ ?_ ((qfg hr _ 0 [[]] (fun l hl=>by rw [au.mp hl]; rfl) (by simp)).filter _) (fun x hx=>?_) ?_).symm,hH⟩
 ·exact dg.mpr (dE (fun {a b} ha hb2 h=>qgN S hr hb ha hb2 h) (qfh _ (fun x=>qgO hr x) _))
 ·obtain ⟨l,hl,rfl⟩:=ah.mp hx
  exact qgM S hr hn hb hl
 ·rw [ay]
  have:(((EV0 r (LS seen)).filter fun l=>decide (ke l seen r=ns)).length:Int)=((PV (ch W seen r ns) (RT W)).length:Int):=by rw [<-c1,hH]
  exact dR (Int.ofNat.inj this)
end
theorem qfi {γ:Type} (P:List β) (g:α->β->γ):∀ (c:List α) (i j:Nat) (a:α) (b:β),c[i]?=some a->P[j]?=some b->(c.flatMap fun s=>P.map (g s))[i * P.length+j]?=some (g a b)
 | [],i,j,a,b,h,_=>by simp at h
 | s::c,0,j,a,b,h,hj=>by
  have h:s=a:=by simpa using h
  subst h
  have hlt:j < P.length:=(aA.mp hj).1
  rw [df,Nat.zero_mul,Nat.zero_add,bY (by rw [ay]; exact hlt),aF,hj]
  rfl
 | s::c,i+1,j,a,b,h,hj=>by
  have ih:=qfi P g c i j a b (by simpa using h) hj
  rw [df,bA (by rw [ay,eZ]; omega),ay,show (i+1) * P.length+j - P.length=i * P.length+j by rw [eZ]; omega]
  exact ih
noncomputable def dig (c:Str->List Int):List Str->Nat->Ln×Nat
 | [],a=>([],a)
 | x::R,a=>((x,((c x)[(dig c R a).2 % (c x).length]?).getD 0)::(dig c R a).1,(dig c R a).2 / (c x).length)
theorem qbH (c:Str->List Int) (a:Nat):∀ R:List Str,(∀ x∈R,c x≠[])->(dig c R a).2=a / (PV c R).length/\(PV c R)[a % (PV c R).length]?=some (dig c R a).1/\0 < (PV c R).length
 | [],_=>by simp [dig,PV,Nat.mod_one]
 | x::R,h=>by
  obtain ⟨h1,h2,h3⟩:=qbH c a R fun y hy=>h y (aa _ hy)
  have hk:0 < (c x).length:=cO.mpr (h x (ai ..))
  have hlen:(PV c (x::R)).length=(c x).length * (PV c R).length:=Ug (PV c R) (fun s l=>(x,s)::l) (c x)
  have hi:(dig c R a).2 % (c x).length < (c x).length:=eY _ hk
  refine ⟨?_,?_,by rw [hlen]; exact Nat.mul_pos hk h3⟩
  ·show (dig c R a).2 / (c x).length=_
   rw [hlen,h1,Nat.div_div_eq_div_mul,fI]
  ·rw [hlen,fI,Nat.mod_mul,Nat.add_comm,fI,<-h1]
   have:=qfi (PV c R) (fun s l=>(x,s)::l) (c x) ((dig c R a).2 % (c x).length) (a % (PV c R).length) _ _ (aC hi) h2
   show ((c x).flatMap fun s=>(PV c R).map fun l=>(x,s)::l)[_]?=_
   rw [this]
   show some ((x,(c x)[(dig c R a).2 % (c x).length])::(dig c R a).1)=some ((x,((c x)[(dig c R a).2 % (c x).length]?).getD 0)::(dig c R a).1)
   rw [aC hi]
   rfl
noncomputable def stp (c:Str->List Int) (s:Ln×Nat) (x:Str):Ln×Nat:=(s.1++[(x,nI (c x) (s.2 % (c x).length))],s.2 / (c x).length)
theorem ZW (c:Str->List Int) (a:Nat):∀ R:List Str,R.reverse.foldl (stp c) ([],a)=((dig c R a).1.reverse,(dig c R a).2)
 | []=>rfl
 | x::R=>by
  rw [cj,eG,ZW c a R]
  show ((dig c R a).1.reverse++[(x,nI (c x) ((dig c R a).2 % (c x).length))],(dig c R a).2 / (c x).length)=_
  show _=(((x,((c x)[(dig c R a).2 % (c x).length]?).getD 0)::(dig c R a).1).reverse,_)
  rw [cj]
  rfl
abbrev qgP:Sl->Out (Fl×Sl):=(qW (xN 2 (d2 ixD (qe 5) (d2 vW (qe 3) (d1 jI (qe 5)))) (qe 4)) (jE 3 (d2 yP (qe 3) (d1 jI (qe 5)))))
theorem qa2 {cs:List Int} (hc:cs≠[]) (h9:cs.length<=99) {a:Nat} (ha:a<=100000000) {acc:Ln} (hl:acc.length<=100) (hx:x∉qU acc) (u v:Option D) :
  qgP [u,v,some (.dct (bk acc)),some (.int (a:Nat)),some (.str x),some (iD cs)]=.ok (.nx,[u,v,some (.dct (bk (acc++[(x,nI cs (a % cs.length))]))),some (.int (a / cs.length:Nat)),some (.str x),some (iD cs)]):=by
 have hp:0 < cs.length:=cO.mpr hc
 have hlen:jI (iD cs)=.ok (.int (cs.length:Int)):=by simp [jI]
 have hp':(0:Int) < (cs.length:Int):=by omega
 have i1:ixD (iD cs) (.int ((a % cs.length:Nat):Int))=.ok (.int (nI cs (a % cs.length))):=qeX cs (a % cs.length) (eY _ hp)
 have hz:(bk acc).length < sizeLine:=aH (by simp [bk]; omega) big
 have hput:Jz (bk acc) (.inr x) (.int (nI cs (a % cs.length)))=bk (acc++[(x,nI cs (a % cs.length))]):=by
  unfold Jz
  have hno:((bk acc).any fun p=>decide (p.1=bj x))=false:=by
   rw [List.any_eq_false]
   intro p hp
   obtain ⟨y,hy,rfl⟩:=ah.mp hp
   intro z
   have z:=of_decide_eq_true z
   exact hx (ah.mpr ⟨y,hy,bj.inj z⟩)
  rw [hno]
  simp [bk]
 have hm:vW (.int (a:Int)) (.int (cs.length:Int))=.ok (.int ((a % cs.length:Nat):Int)):=by
  simp [vW,vV,hp',hc]
 have hd:yP (.int (a:Int)) (.int (cs.length:Int))=.ok (.int ((a / cs.length:Nat):Int)):=by
  have hcd:qbS (a:Int) (cs.length:Int):=by
   refine ⟨?_,?_⟩ <;> omega
  simp [yP,vV,hcd]
 generalize a % cs.length=k at hm i1 hput ⊢
 generalize a / cs.length=d at hd ⊢
 generalize iD cs=Y at hlen i1 ⊢
 unfold qgP
 rw [Gf (ρ1:=[u,v,some (.dct (bk (acc++[(x,nI cs k)]))),some (.int (a:Nat)),some (.str x),some Y]) (by
  simp only [xN]
  simp [hlen,hm,i1,Qr,hz,hput])]
 simp [hlen,hd]
variable {c:Str->List Int}
theorem Uj (u v:Option D):∀ (Q:List Str) (s:Ln×Nat) (y z:Option D),(∀ x∈Q,c x≠[]/\(c x).length<=99)->s.2<=100000000->s.1.length+Q.length<=100->(qU s.1++Q).Nodup ->
  ∃ y' z',vk (kg 2 (qH (gNm 4) (qH (gNm 5) kf))) qgP (Q.map fun x=>rd (x,c x)) [u,v,some (.dct (bk s.1)),some (.int (s.2:Nat)),y,z]=.ok (.nx,[u,v,some (.dct (bk (Q.foldl (stp c) s).1)),some (.int ((Q.foldl (stp c) s).2:Nat)),y',z'])
 | [],s,y,z,_,_,_,_=>⟨y,z,rfl⟩
 | x::Q,s,y,z,hc,ha,hl,hn=>by
  rw [ao] at hl
  have hx:=hc x (ai ..)
  have hnx:x∉qU s.1:=fun h=>(bV.mp hn).2.2 x h x (ai ..) rfl
  have t:=qa2 hx.1 hx.2 ha (acc:=s.1) (by omega) hnx u v
  have hk:qU (stp c s x).1++Q=qU s.1++(x::Q):=by simp [stp,qU]
  obtain ⟨y',z',ih⟩:=Uj u v Q (stp c s x) (some (.str x)) (some (iD (c x))) (fun w hw=>hc w (aa _ hw)) (be (Nat.div_le_self _ _) ha) (by simp [stp]; omega) (by rw [hk]; exact hn)
  exact ⟨y',z',cE (vB (d:=rd (x,c x)) (ρ1:=[u,v,some (.dct (bk s.1)),some (.int (s.2:Nat)),some (.str x),some (iD (c x))]) rfl t) ih⟩
theorem ZX {R:List Str} (hc:∀ x∈R,c x≠[]/\(c x).length<=99) (hR:R.length<=100) (hn:R.Nodup) {a:Nat} (ha:a<=100000000) :
  ya [.lst (R.map fun x=>rd (x,c x)),.int (a:Nat)]=.ok (.dct (bk (dig c R a).1.reverse),[.non,.non]):=by
 obtain ⟨y',z',e⟩:=Uj (some (.lst (R.map fun x=>rd (x,c x)))) (some (.int (a:Nat))) R.reverse ([],a) none none (fun x hx=>hc x (dn.mp hx)) ha (by rw [ei]; simpa using hR) (by show (([]:List Str)++R.reverse).Nodup; rw [bX]; exact (List.reverse_perm R).nodup_iff.mpr hn)
 rw [ZW] at e
 refine runD_ap.trans ?_
 unfold uZ
 rw [show qy uY [.lst (R.map fun x=>rd (x,c x)),.int (a:Nat)]=[some (.lst (R.map fun x=>rd (x,c x))),some (.int (a:Nat)),none,none,none,none] from rfl]
 refine (qF (ρ1:=[some (.lst (R.map fun x=>rd (x,c x))),some (.int (a:Nat)),some (.dct []),none,none,none]) (by simp)).trans ?_
 refine (qF (ρ1:=[some (.lst (R.map fun x=>rd (x,c x))),some (.int (a:Nat)),some (.dct []),some (.int (a:Nat)),none,none]) (by simp)).trans ?_
 refine (qF (ρ1:=[some (.lst (R.map fun x=>rd (x,c x))),some (.int (a:Nat)),some (.dct (bk (dig c R a).1.reverse)),some (.int ((dig c R a).2:Nat)),y',z']) (by
  rw [kq,show qgE (qe 0) [some (.lst (R.map fun x=>rd (x,c x))),some (.int (a:Nat)),some (.dct []),some (.int (a:Nat)),none,none]=.ok ((R.map fun x=>rd (x,c x)).reverse,[some (.lst (R.map fun x=>rd (x,c x))),some (.int (a:Nat)),some (.dct []),some (.int (a:Nat)),none,none]) from rfl,kz,<-List.map_reverse]
  exact e)).trans ?_
 simp [qA]
theorem ZY (S:Sn seen W):jX (kW W)=LS seen:=by
 refine yw ?_ (ji _) (by unfold LS; exact ji _)
 exact (qR _).trans (KG S.w.nd (Wa _) fun x=>⟨fun h=>S.w.sub x h,fun h=>S.a x h⟩)
abbrev wfB:Sl->Out (Fl×Sl):=(qW (jE 7 (d2 ixD (qe 3) (d2 ixD (d2 ixD (qe 4) (qe 6)) (dC (.int 0)))))
  (kD (zz 5 Qq (vj (qd (qe 6) (qd (d2 vW (qv [.vl,.vl,.vl] kT (qd (d2 ixD (d2 ixD (qe 4) (qe 6)) (dC (.int 1))) (qd (qe 2) (qd (qe 7) qC)))) (qe 1)) qC))))))
variable {st:Ln}
theorem ZZ (S:Sn seen W) (hr:1<=r) (hns:ns.length=seen.length) (hst:∀ y∈kW W,(qJ W y).1∈qU st) (a:Option D):∀ (L:List Str) (acc:Ln) (x y:Option D),(∀ z∈L,z∈kW W)->acc.length+L.length<=100 ->
  ∃ x' y',vk (gNm 6) wfB (L.map D.str) [a,some (.int r),some (nD ns),some (.dct (bk st)),some (.dct (wD W)),some (.lst (prL acc)),x,y]=.ok (.nx,[a,some (.int r),some (nD ns),some (.dct (bk st)),some (.dct (wD W)),some (.lst (prL (acc++bl W r ns L st))),x',y'])
 | [],acc,x,y,_,_=>⟨x,y,by simp [vk,bl]⟩
 | z::L,acc,x,y,hL,hl=>by
  rw [ao] at hl
  have hz:=hL z (ai ..)
  have i1:=Jo S.w.nd hz
  have i2:=qc3 (hst z hz)
  have hlt:∀ k∈(qJ W z).2,k < ns.length:=fun k hk=>by
   rw [hns]
   exact (S.w.path _ (jk hz)).lt k hk
  have i3:=yb (Zy ns) hlt (jq st (qJ W z).1)
  obtain ⟨x',y',ih⟩:=ZZ S hr hns hst a L (acc++[(z,vO W r ns (jq st) z)]) (some (.str z)) (some (.int (jq st (qJ W z).1))) (fun w hw=>hL w (aa _ hw)) (by rw [af]; simp; omega)
  have hr0:0 < r:=by omega
  have z2:2<=sizeLine:=jj (by omega)
  have hzz:(prL acc).length < sizeLine:=aH (by simp [prL]; omega) big
  have e:acc++[(z,vO W r ns (jq st) z)]++bl W r ns L st=acc++bl W r ns (z::L) st:=by simp [bl]
  rw [e] at ih
  have e2:prL (acc++[(z,vO W r ns (jq st) z)])=prL acc++[.tup [.str z,.int (qN ns (jq st (qJ W z).1) (qJ W z).2 % r)]]:=by simp [prL,vO]
  refine ⟨x',y',cE (vB (d:=.str z) (ρ1:=[a,some (.int r),some (nD ns),some (.dct (bk st)),some (.dct (wD W)),some (.lst (prL acc)),some (.str z),y]) rfl ?_) ih⟩
  rw [e2]
  unfold wfB
  rw [Gf (ρ1:=[a,some (.int r),some (nD ns),some (.dct (bk st)),some (.dct (wD W)),some (.lst (prL acc)),some (.str z),some (.int (jq st (qJ W z).1))]) (by
   generalize D.dct (bk st)=Y at i2 ⊢
   generalize D.dct (wD W)=Z at i1 ⊢
   simp [i1,qgG,i2])]
  have hi:wQ ([a,some (.int r),some (nD ns),some (.dct (bk st)),some (.dct (wD W)),some (.lst (prL acc)),some (.str z),some (.int (jq st (qJ W z).1))]:Sl)[5]?=true:=rfl
  generalize D.dct (bk st)=Y at i2 hi ⊢
  generalize D.dct (wD W)=Z at i1 hi ⊢
  generalize hl2:lD (qJ W z).2=U at i1 i3
  simp [i1,qgH,qE,jl,i3,vW,vV,hr0,z2,Qq,hzz,wQ]
theorem qdk (S:Sn seen W) (hr:1<=r) (hns:ns.length=seen.length) (hst:∀ y∈kW W,(qJ W y).1∈qU st):ww [sD seen,.int r,nD ns,.dct (bk st)]=.ok (.tup (prL (bl W r ns (LS seen) st)),[.non,.non,.non,.non]):=by
 have hle:=S.w.le
 have hs12:=S.s
 have hk64:(kW W).length < 64:=by simp [kW]; omega
 have hkz:((kW W).all fun y=>decide (y.length<=sizeLine))=true:=by
  rw [ba]
  intro y hy
  exact decide_eq_true (jj (S.z y (S.w.sub y hy)))
 have hso:jY (.dct (wD W))=.ok (.lst ((LS seen).map D.str)):=by
  unfold jY
  simp only [VZ]
  rw [if_pos ⟨hk64,hkz⟩,ZY S]
 obtain ⟨x',y',e⟩:=ZZ S hr hns hst (some (sD seen)) (LS seen) [] none none (fun z hz=>S.a z hz) (by simp; omega)
 rw [bX] at e
 have hw:=S.e
 refine runD_ap.trans ?_
 unfold wv
 rw [show qy wu [sD seen,.int r,nD ns,.dct (bk st)]=[some (sD seen),some (.int r),some (nD ns),some (.dct (bk st)),none,none,none,none] from rfl]
 refine (qF (ρ1:=[some (sD seen),some (.int r),some (nD ns),some (.dct (bk st)),some (.dct (wD W)),none,none,none]) (by simp [qE,jl,hw])).trans ?_
 refine (qF (ρ1:=[some (sD seen),some (.int r),some (nD ns),some (.dct (bk st)),some (.dct (wD W)),some (.lst []),none,none]) (by simp)).trans ?_
 refine (qF (ρ1:=[some (sD seen),some (.int r),some (nD ns),some (.dct (bk st)),some (.dct (wD W)),some (.lst (prL (bl W r ns (LS seen) st))),x',y']) (by
  rw [kq,show kG (d1 jY (qe 4)) [some (sD seen),some (.int r),some (nD ns),some (.dct (bk st)),some (.dct (wD W)),some (.lst []),none,none]=.ok ((LS seen).map D.str,[some (sD seen),some (.int r),some (nD ns),some (.dct (bk st)),some (.dct (wD W)),some (.lst []),none,none]) by simp [hso,jK],kz]
  exact e)).trans ?_
 simp [yt,qA]
theorem Ga:∀ {l:Ln},(qU l).Nodup->∀ {x:Str} {v w:Int},(x,v)∈l->(x,w)∈l->v=w
 | [],_,x,v,w,h,_=>by cases h
 | e::l,hn,x,v,w,h,h'=>by
  have hn2:=aI.mp (show (e.1::qU l).Nodup from hn)
  rcases ac.mp h with h1 | h1
  ·rcases ac.mp h' with h2 | h2
   ·rw [<-h1] at h2
    exact (congrArg Prod.snd h2).symm
   ·exact absurd (show e.1∈qU l from ah.mpr ⟨(x,w),h2,by rw [<-h1]⟩) hn2.1
  ·rcases ac.mp h' with h2 | h2
   ·exact absurd (show e.1∈qU l from ah.mpr ⟨(x,v),h1,by rw [<-h2]⟩) hn2.1
   ·exact Ga hn2.2 h1 h2
theorem qdl {l:Ln} (hn:(qU l).Nodup) (hx:x∈qU l):jq l.reverse x=jq l x:=by
 have h1:=(kE hx).1
 have hx2:x∈qU l.reverse:=by
  obtain ⟨e,he,q⟩:=ah.mp hx
  exact ah.mpr ⟨e,dn.mpr he,q⟩
 have h2:=dn.mp (kE hx2).1
 exact Ga hn h2 h1
theorem qfj (hw:jo ws) (hl:Jx p q) (h0:1<=r) (h9:r<=99) (hn:kj ws.length r ns) (S:Sn (qu ws p q) W) (hd:Pl d) (hb:Qa 0 (HM W (qu ws p q) r ns - 1) d=false) :
  kr [Wd ws,Ld p q,.int r,nD ns,d]=.exc "NoPlace" [some .non,some .non,some .non,some .non,some .non]:=by
 have h1:=gt hw hl h0 h9 hn S
 have h2:=jD hd 0 (HM W (qu ws p q) r ns - 1)
 rw [hb] at h2
 refine runD_ap.trans ?_
 generalize nD ns=Y at h1 ⊢
 simp [wz,qy,qA,qE,jl,h1,Qi,vV,h2,yg,wN]
theorem qgQ (hw:jo ws) (hl:Jx p q) (h0:1<=r) (h9:r<=99) (hn:kj ws.length r ns) (S:Sn (qu ws p q) W) {a:Nat} (ha:(a:Int) < HM W (qu ws p q) r ns) (hz:a<=100000000) :
  ∃ l,((EV0 r (LS (qu ws p q))).filter fun l=>decide (ke l (qu ws p q) r=ns))[a]?=some l/\kr [Wd ws,Ld p q,.int r,nD ns,.int (a:Nat)]=.ok (.tup (prL l),[.non,.non,.non,.non,.non]):=by
 have hsl:(qu ws p q).length=ws.length:=by simp [qu]
 have hn':kj (qu ws p q).length r ns:=by rw [hsl]; exact hn
 have h1:=gt hw hl h0 h9 hn S
 have h2:=jD (d:=.int (a:Nat)) trivial 0 (HM W (qu ws p q) r ns - 1)
 have hbt:Qa 0 (HM W (qu ws p q) r ns - 1) (.int (a:Nat))=true:=by
  simp [Qa]
  omega
 rw [hbt] at h2
 have h3:=Jp hw hl
 have hb:BO W (qu ws p q) r ns=none:=by
  cases q:BO W (qu ws p q) r ns with
  | none=>rfl
  | some c=>
   unfold HM at ha
   rw [q] at ha
   simp at ha
   omega
 obtain ⟨al,hH⟩:=ZV S h0 hn' hb
 have hch:=qaZ h0 hb
 have hne:∀ x∈RT W,ch W (qu ws p q) r ns x≠[]/\(ch W (qu ws p q) r ns x).length<=99:=fun x hx=>by
  refine ⟨fun z=>?_,qbz _ h0 h9 ns⟩
  have hpos:0 < (PV (ch W (qu ws p q) r ns) (RT W)).length:=by omega
  obtain ⟨l,hl⟩:=List.exists_mem_of_length_pos hpos
  obtain ⟨k1,k2⟩:=(wE _).mp hl
  have:=k2 _ (kE (by rw [k1]; exact hx)).1
  rw [show ch W (qu ws p q) r ns (x,jq l x).1=[] from z] at this
  cases this
 have hRl:(RT W).length<=100:=by
  have h5:=c8 (fun x=>decide ((qJ W x).1=x)) (jX (kW W))
  have h6:(jX (kW W)).length=(LS (qu ws p q)).length:=by rw [ZY S]
  have:=S.s
  unfold RT
  omega
 have h4:=gq S hn'.1 h0 h9
 have h5:=ZX (c:=ch W (qu ws p q) r ns) (R:=RT W) hne hRl (Yd S) hz
 obtain ⟨_,d2,d3⟩:=qbH (ch W (qu ws p q) r ns) a (RT W) fun x hx=>(hne x hx).1
 have ha2:a < (PV (ch W (qu ws p q) r ns) (RT W)).length:=by omega
 rw [Nat.mod_eq_of_lt ha2] at d2
 have hmem:(dig (ch W (qu ws p q) r ns) (RT W) a).1∈PV (ch W (qu ws p q) r ns) (RT W):=aP d2
 obtain ⟨k1,k2⟩:=(wE _).mp hmem
 have hnd:(qU (dig (ch W (qu ws p q) r ns) (RT W) a).1).Nodup:=by rw [k1]; exact Yd S
 have hroot:∀ y∈kW W,(qJ W y).1∈qU (dig (ch W (qu ws p q) r ns) (RT W) a).1:=fun y hy=>by
  rw [k1]
  obtain ⟨r1,r2⟩:=yc S hy
  exact mem_RT.mpr ⟨r1,by rw [r2]⟩
 have h6:=qdk S h0 hn'.1 (st:=(dig (ch W (qu ws p q) r ns) (RT W) a).1.reverse) fun y hy=>by
  obtain ⟨e,he,q⟩:=ah.mp (hroot y hy)
  exact ah.mpr ⟨e,dn.mpr he,q⟩
 have hbl:bl W r ns (LS (qu ws p q)) (dig (ch W (qu ws p q) r ns) (RT W) a).1.reverse=bl W r ns (LS (qu ws p q)) (dig (ch W (qu ws p q) r ns) (RT W) a).1:=by
  unfold bl
  refine dt fun y hy=>?_
  unfold vO
  rw [qdl hnd (hroot y (S.a y hy))]
 rw [hbl] at h6
 refine ⟨_,by rw [al,aF,d2]; rfl,?_⟩
 have hRO:(RO W (qu ws p q) r ns).map rd=(RT W).map fun x=>rd (x,ch W (qu ws p q) r ns x):=by
  unfold RO
  rw [bD]
  rfl
 rw [hRO] at h4
 refine runD_ap.trans ?_
 generalize D.lst ((RT W).map fun x=>rd (x,ch W (qu ws p q) r ns x))=Z at h4 h5
 generalize D.dct (bk (dig (ch W (qu ws p q) r ns) (RT W) a).1.reverse)=V at h5 h6
 generalize D.tup (prL (bl W r ns (LS (qu ws p q)) (dig (ch W (qu ws p q) r ns) (RT W) a).1))=U at h6 ⊢
 generalize nD ns=Y at h1 h4 h6 ⊢
 simp [wz,qy,qA,qE,jl,h1,Qi,vV,h2,yg,h3,h4,h5,h6]
def qdu (ca:Str->Addr):Prop:=∀ x∈CS,∀ y∈CS,ca x=ca y->x=y
variable {ca:Str->Addr}
theorem vR (h:qdu ca) (hx:x∈CS) (hy:y∈CS) {b:Bool} (e:decide (y=x)=b):Kb ca CS x (ca y)=some b:=by
 unfold Kb
 rw [if_pos (ah.mpr ⟨y,hy,rfl⟩),<-e]
 by_cases z:y=x
 ·simp [z]
 ·have:ca y≠ca x:=fun w=>z (h y hy x hx w)
  simp [z,this]
theorem qdm (hy:y∈CS):qeq ca CS (ca y)=some true:=by
 unfold qeq
 rw [if_pos (ah.mpr ⟨y,hy,rfl⟩)]
theorem qfk (hy:y∈CS):qep ca CS y=some (ca y):=by
 unfold qep
 rw [if_pos hy]
theorem We (h:qdu ca):Ji ca [.xcp (ca "NoPlace")]=.ok (.tup [.str "refused",.int 9],[.non]):=by
 refine runD_ap.trans ?_
 have hy:(aV "NoPlace")∈CS:=by decide +kernel
 have a0:=vR h (x := "NoWords") (y := "NoPlace") (b:=false) (by decide +kernel) hy (by decide +kernel)
 have a1:=vR h (x := "NoLook") (y := "NoPlace") (b:=false) (by decide +kernel) hy (by decide +kernel)
 have a2:=vR h (x := "NoNumbers") (y := "NoPlace") (b:=false) (by decide +kernel) hy (by decide +kernel)
 have a3:=vR h (x := "NoRoom") (y := "NoPlace") (b:=false) (by decide +kernel) hy (by decide +kernel)
 have a4:=vR h (x := "NoWord") (y := "NoPlace") (b:=false) (by decide +kernel) hy (by decide +kernel)
 have a5:=vR h (x := "NoWorths") (y := "NoPlace") (b:=false) (by decide +kernel) hy (by decide +kernel)
 have a6:=vR h (x := "Never") (y := "NoPlace") (b:=false) (by decide +kernel) hy (by decide +kernel)
 have a7:=vR h (x := "Full") (y := "NoPlace") (b:=false) (by decide +kernel) hy (by decide +kernel)
 have a8:=vR h (x := "Known") (y := "NoPlace") (b:=false) (by decide +kernel) hy (by decide +kernel)
 have a9:=vR h (x := "NoPlace") (y := "NoPlace") (b:=true) (by decide +kernel) hy (by decide +kernel)
 have a10:=vR h (x := "NoLetters") (y := "NoPlace") (b:=false) (by decide +kernel) hy (by decide +kernel)
 have a11:=vR h (x := "NoText") (y := "NoPlace") (b:=false) (by decide +kernel) hy (by decide +kernel)
 have a12:=vR h (x := "Nothing") (y := "NoPlace") (b:=false) (by decide +kernel) hy (by decide +kernel)
 have aT:=qdm (ca:=ca) hy
 have z4:4<=sizeLine:=jj (by omega)
 have z8:8<=sizeLine:=jj (by omega)
 have z12:12<=sizeLine:=jj (by omega)
 have z12':12 < sizeLine:=aH (by decide) big
 have z2:2<=sizeLine:=jj (by omega)
 simp [Jh,qy,qA,gB,a0,a1,a2,a3,a4,a5,a6,a7,a8,a9,a10,a11,a12,aT,z4,z8,z12,z12',z2,wQ,Xk,Qq,WA,vI,neD,eqN,eqS,yg,WB,qcq,List.countP_cons,List.findIdx?_cons]
abbrev ref (k:Int):D:=.tup [.str "refused",.int k]
theorem qfl {c n v:D} (h:kr [a,b,c,n,d]=.ok (v,[.non,.non,.non,.non,.non])):gh ca [a,b,c,n,d]=.ok (v,[.non,.non,.non,.non,.non]):=by
 refine runD_ap.trans ?_
 simp [WZ,qcn,qy,qA,qE,jl,h]
theorem qbI (hca:qdu ca) {c n:D} (h:kr [a,b,c,n,d]=.exc "NoPlace" [some .non,some .non,some .non,some .non,some .non]):gh ca [a,b,c,n,d]=.ok (.tup [.str "refused",.int 9],[.non,.non,.non,.non,.non]):=by
 have hp:=qfk (ca:=ca) (y := "NoPlace") (by decide +kernel)
 have wp:=We hca
 refine runD_ap.trans ?_
 simp [WZ,qcn,qy,qA,qE,jl,h,hp,wp]
theorem KO {k:Nat}:∀ ds:List D,(∀ d∈ds,eqN k d d=some true)->vX (eqN k) ds ds=some true
 | [],_=>rfl
 | d::ds,h=>by
  have e:=h d (ai ..)
  have ih:=KO ds fun d' hd=>h d' (aa _ hd)
  simp [vX,e,ih]
theorem qdn (l:Ln):neD (.tup (prL l)) (.tup (prL l))=.ok (.bl false):=by
 have e:=KO (k:=7) (prL l) fun d hd=>by
  obtain ⟨x,_,rfl⟩:=ah.mp hd
  simp [eqN,vX,eqS]
 simp [neD,eqN,e]
theorem qfm:neD (.tup [.str "refused",.int 9]) (.tup [.str "refused",.int 9])=.ok (.bl false):=by simp [neD,eqN,vX,eqS]
theorem qfn:eqD (.tup [.str "refused",.int 9]) (.tup [.str "refused",.int 9])=.ok (.bl true):=by simp [eqD,eqN,vX,eqS]
noncomputable def Yi (A:List Ln) (v:Nat):D:=match A[v]? with
 | some l=>.tup (prL l)
 | none=>.tup [.str "refused",.int 9]
theorem qfo (A:List Ln) (v:Nat):neD (Yi A v) (Yi A v)=.ok (.bl false):=by
 unfold Yi
 cases A[v]? with
 | none=>exact qfm
 | some l=>exact qdn l
abbrev paB (G:List D->Out (D×List D)):Sl->Out (Fl×Sl):=(qW (jE 4 (d2 vW (qe 4) (d2 qbh (dC (.int 1)) (d1 jI (qe 3)))))
  (sIf (jg (d2 neD (qv [.vl,.vl,.vl,.vl,.vl] G (qd (qe 6) (qd (qe 7) (qd (qe 8) (qd (qe 9) (qd (qe 4) qC)))))) (dIf (jg (d2 neD (qe 3) (wL qC))) (d2 ixD (qe 3) (qe 4)) (vj (qd (dC (.str "refused")) (qd (dC (.int 9)) qC)))))) (jL (dC (.bl false))) jN))
variable {A:List Ln}
theorem qdo {c n:D} (hG:∀ v:Nat,v < A.length\/(A=[]/\v=0)->G [a,b,c,n,.int (v:Nat)]=.ok (Yi A v,[.non,.non,.non,.non,.non])) (i:Int) (s t p w:Option D) :
  ∃ v:Nat,paB G [s,t,p,some (.lst (rD A)),some (.int i),w,some a,some b,some c,some n]=.ok (.nx,[s,t,p,some (.lst (rD A)),some (.int (v:Nat)),w,some a,some b,some c,some n]):=by
 have hlen:jI (.lst (rD A))=.ok (.int (A.length:Int)):=by simp [jI,rD]
 obtain ⟨m,hm,hmx⟩:∃ m:Int,1<=m/\qbh (.int 1) (.int (A.length:Int))=.ok (.int m)/\(A≠[]->m=(A.length:Int))/\(A=[]->m=1):=by
  refine ⟨if (1:Int) < (A.length:Int) then (A.length:Int) else 1,?_,?_,?_,?_⟩
  ·split <;> omega
  ·simp [qbh,vV]
  ·intro h
   have:=cO.mpr h
   split <;> omega
  ·intro h
   subst h
   simp
 have h0:0<=i % m:=cw _ (by omega)
 have h1:i % m < m:=bN _ (by omega)
 obtain ⟨v,hv⟩:=cT h0
 have hm0:0 < m:=by omega
 have hmod:vW (.int i) (.int m)=.ok (.int (v:Nat)):=by simp [vW,vV,hm0,hv]
 have hvc:v < A.length\/(A=[]/\v=0):=by
  by_cases q:A=[]
  ·have:=hmx.2.2 q
   exact .inr ⟨q,by omega⟩
  ·have:=hmx.2.1 q
   exact .inl (by omega)
 have hg:=hG v hvc
 have hne:=qfo A v
 have hmx1:=hmx.1
 refine ⟨v,?_⟩
 unfold paB
 rw [Gf (ρ1:=[s,t,p,some (.lst (rD A)),some (.int (v:Nat)),w,some a,some b,some c,some n]) (by
  generalize D.lst (rD A)=Y at hlen ⊢
  simp [hlen,hmx1,hmod])]
 rcases hvc with h | ⟨rfl,rfl⟩
 ·have e1:neD (.lst (rD A)) (.lst [])=.ok (.bl true):=by
   have:¬(rD A).length=0:=by simp [rD]; intro z; rw [z] at h; simp at h
   simp [neD,eqN,this]
  have e2:ixD (.lst (rD A)) (.int (v:Nat))=.ok (Yi A v):=by
   unfold ixD Yi rD
   simp only []
   rw [vD,aF,aC h]
   rfl
  generalize D.lst (rD A)=Y at e1 e2 ⊢
  generalize Yi A v=Z at hg hne e2
  simp [qE,jl,hg,e1,e2,hne]
 ·have e1:neD (.lst (rD [])) (.lst [])=.ok (.bl false):=rfl
  have z2:2<=sizeLine:=jj (by omega)
  have hd:Yi [] 0=.tup [.str "refused",.int 9]:=rfl
  rw [hd] at hg hne
  generalize D.lst (rD [])=Y at e1 ⊢
  simp at hg
  simp [qE,jl,hg,e1,hne,z2]
theorem Gb {c n:D} (hG:∀ v:Nat,v < A.length\/(A=[]/\v=0)->G [a,b,c,n,.int (v:Nat)]=.ok (Yi A v,[.non,.non,.non,.non,.non])) (s t p w:Option D):∀ (is:List Int) (x:Option D),
  ∃ x',vk (gNm 4) (paB G) (is.map D.int) [s,t,p,some (.lst (rD A)),x,w,some a,some b,some c,some n]=.ok (.nx,[s,t,p,some (.lst (rD A)),x',w,some a,some b,some c,some n])
 | [],x=>⟨x,rfl⟩
 | i::is,x=>by
  obtain ⟨v,e⟩:=qdo hG i s t p w
  obtain ⟨x',ih⟩:=Gb hG s t p w is (some (.int (v:Nat)))
  exact ⟨x',cE (vB (d:=.int i) (ρ1:=[s,t,p,some (.lst (rD A)),some (.int i),w,some a,some b,some c,some n]) rfl e) ih⟩
theorem Gc (ns0:List Int):∀ (ds town:List D) (x:Option D),town.length+ds.length<=900 ->
  ∃ (is:List Int) (town':List D) (x':Option D),is.length=ds.length/\town'.length=town.length+ds.length/\jx (gNm 0) ftT (qv [.vl,.sl 2,.vl] jv (qd (qe 1) (jO (qd (dC (.int 9973)) qC)))) ds [x,some (scr ns0),some (.lst town)]=.ok (is.map D.int,[x',some (scr ns0),some (.lst town')])
 | [],town,x,_=>⟨[],town,x,rfl,rfl,rfl⟩
 | d::ds,town,x,h=>by
  rw [ao] at h
  obtain ⟨v,v0,v1,g⟩:=vg ns0 town (many:=9973) (by omega) (by omega)
  obtain ⟨is,town',x',h1,h2,e⟩:=Gc ns0 ds (town++[.int 0]) (some d) (by rw [af]; simp; omega)
  refine ⟨v::is,town',x',by simp [h1],by rw [h2,af,ao]; simp; omega,?_⟩
  simp [jx,ym,qE,jl,g,e,wQ]
theorem qgR {K:List D->Out (D×List D)} {c n:D} {ns0:List Int} {t1 t2:List D} {p x y:Option D} (hK:K [scr ns0,.lst t1,.lst [.int (-1),.int (A.length:Int),.int ((A.length:Int)+3),.non,.bl true,.str "0",.tup [.int 0]]]=.ok (d,[.non,.lst t2,.non])) (hG:G [a,b,c,n,d]=.ok (.tup [.str "refused",.int 9],[.non,.non,.non,.non,.non])) :
  Yg [.val] ((qW (jE 5 (qv [.vl,.sl 1,.vl] K (qd (qe 0) (jO (qd (wL (qd (d1 qcq (dC (.int 1))) (qd (d1 jI (qe 3)) (qd (d2 kt (d1 jI (qe 3)) (dC (.int 3))) (qd (dC .non) (qd (dC (.bl true)) (qd (dC (.str "0")) (qd (vj (qd (dC (.int 0)) qC)) qC)))))))) qC)))))
  (jL (d2 eqD (qv [.vl,.vl,.vl,.vl,.vl] G (qd (qe 6) (qd (qe 7) (qd (qe 8) (qd (qe 9) (qd (qe 5) qC)))))) (vj (qd (dC (.str "refused")) (qd (dC (.int 9)) qC)))))) [some (scr ns0),some (.lst t1),p,some (.lst (rD A)),x,y,some a,some b,some c,some n])=.ok (.bl true,[.non]):=by
 have hlen:jI (.lst (rD A))=.ok (.int (A.length:Int)):=by simp [jI,rD]
 have z1:1<=sizeLine:=jj (by omega)
 have z2:2<=sizeLine:=jj (by omega)
 have z7:7<=sizeLine:=jj (by omega)
 have er:=qfn
 refine (qF (ρ1:=[some (scr ns0),some (.lst t2),p,some (.lst (rD A)),x,some d,some a,some b,some c,some n]) (by
  generalize D.lst (rD A)=Y at hlen ⊢
  generalize scr ns0=Z at hK ⊢
  simp [hlen,qcq,kt,vV,z1,z7,qE,jl,hK,wQ])).trans ?_
 generalize D.lst (rD A)=Y at hlen ⊢
 simp [qE,jl,hG,z2,er,qA]
theorem qfp (hca:qdu ca) (ns0:List Int):qaM ca [scr ns0]=.ok (.bl true,[.non]):=by
 refine runD_ap.trans ?_
 obtain ⟨is,t0,x0,hi1,hi2,dc0⟩:=Gc ns0 (xx 0 5) [] none (by simp [xx])
 have hr5:(xx 0 5).length=5:=by simp [xx]
 rw [hr5] at hi1 hi2
 obtain ⟨ws,p,q,r,ns,t1,T,ht1,g1⟩:=Wb ns0 t0 (by rw [hi2]; simp)
 rw [hi2] at ht1
 simp at ht1
 have h9:r<=99:=by have:=T.r9; omega
 have hr:=T.r0
 have hsl:(qu ws p q).length=ws.length:=by simp [qu]
 have hL10:(LS (qu ws p q)).length<=10:=by
  have:=qgL (qu ws p q)
  have:=T.w5
  omega
 have hpw:r.toNat ^ (LS (qu ws p q)).length<=1100000:=by
  have h1:r.toNat<=4:=by have:=T.r9; omega
  have h2:r.toNat ^ (LS (qu ws p q)).length<=4 ^ (LS (qu ws p q)).length:=Nat.pow_le_pow_left h1 _
  have h3:4 ^ (LS (qu ws p q)).length<=4 ^ 10:=Nat.pow_le_pow_right (by omega) hL10
  exact be (be h2 h3) (by decide)
 have he:=qa0 T.w T.l hr h9 hpw
 obtain ⟨W,S⟩:=qgJ T.w p q
 have hn:kj (qu ws p q).length r ns:=by rw [hsl]; exact T.n
 obtain ⟨c1,c2⟩:=qfd S hr hn
 have hkeys:∀ l∈EV0 r (LS (qu ws p q)),qU l=LS (qu ws p q):=fun l hl=>((Wc hr).mp hl).1
 have hEl:(EV0 r (LS (qu ws p q))).length<=1100000:=by
  have:∀ (L:List Str) (rows:List Ln),(EV r rows L).length=rows.length * r.toNat ^ L.length:=fun L=>by
   induction L with
   | nil=>intro rows; simp [EV]
   | cons x L ih=>
    intro rows
    show (EV r (evS r x rows) L).length=_
    rw [ih,ZS,ao,Nat.pow_succ',Nat.mul_assoc]
  have h:=this (LS (qu ws p q)) [[]]
  rw [h]
  simpa using hpw
 have hAl:((EV0 r (LS (qu ws p q))).filter fun l=>decide (ke l (qu ws p q) r=ns)).length<=1100000:=be (c8 _ _) hEl
 have hask:∀ v:Nat,v < ((EV0 r (LS (qu ws p q))).filter fun l=>decide (ke l (qu ws p q) r=ns)).length\/((EV0 r (LS (qu ws p q))).filter (fun l=>decide (ke l (qu ws p q) r=ns))=[]/\v=0)->gh ca [Wd ws,Ld p q,.int r,nD ns,.int (v:Nat)]=.ok (Yi ((EV0 r (LS (qu ws p q))).filter fun l=>decide (ke l (qu ws p q) r=ns)) v,[.non,.non,.non,.non,.non]):=fun v hv=>by
  rcases hv with hv | ⟨hv,rfl⟩
  ·obtain ⟨l,hl,hw⟩:=qgQ T.w T.l hr h9 T.n S (a:=v) (by rw [c1]; omega) (by omega)
   unfold Yi
   rw [hl]
   exact qfl hw
  ·have hH:HM W (qu ws p q) r ns=0:=by rw [c1,hv]; rfl
   unfold Yi
   rw [hv]
   exact qbI hca (qfj T.w T.l hr h9 T.n S (d:=.int ((0:Nat):Int)) trivial (by rw [hH]; simp [Qa]))
 have hwr:∀ d∈([.int (-1),.int (((EV0 r (LS (qu ws p q))).filter fun l=>decide (ke l (qu ws p q) r=ns)).length:Int),.int ((((EV0 r (LS (qu ws p q))).filter fun l=>decide (ke l (qu ws p q) r=ns)).length:Int)+3),.non,.bl true,.str "0",.tup [.int 0]]:List D),gh ca [Wd ws,Ld p q,.int r,nD ns,d]=.ok (.tup [.str "refused",.int 9],[.non,.non,.non,.non,.non]):=fun d hd=>by
  refine qbI hca (qfj T.w T.l hr h9 T.n S ?_ ?_)
  ·simp only [ac,bb,or_false] at hd
   rcases hd with rfl | rfl | rfl | rfl | rfl | rfl | rfl <;> trivial
  ·rw [c1]
   simp only [ac,bb,or_false] at hd
   rcases hd with rfl | rfl | rfl | rfl | rfl | rfl | rfl <;> simp [Qa] <;> omega
 obtain ⟨x',dc⟩:=ZT T.w T.l hr ns (EV0 r (LS (qu ws p q))) none hkeys
 generalize hA:(EV0 r (LS (qu ws p q))).filter (fun l=>decide (ke l (qu ws p q) r=ns))=A at dc hask hwr hAl
 generalize EV0 r (LS (qu ws p q))=E at he dc hEl
 obtain ⟨d,hd,hp⟩:=VS ns0 t1 [.int (-1),.int (A.length:Int),.int ((A.length:Int)+3),.non,.bl true,.str "0",.tup [.int 0]] (by simp) (by omega)
 have hri:jw (dC (.int 5)) [some (scr ns0),some (.lst []),none,none,none,none,none,none,none,none]=.ok (xx 0 5,[some (scr ns0),some (.lst []),none,none,none,none,none,none,none,none]):=by
  rw [iR0 (k:=5) (ρ1:=[some (scr ns0),some (.lst []),none,none,none,none,none,none,none,none]) (by omega) (by omega) rfl]
  rfl
 have d0:=zm (own:=[1]) (cap:=[0,1]) (nt:=1) (fi:=jw (dC (.int 5))) (g:=gNm 0) (ft:=ftT) (fe:=qv [.vl,.sl 2,.vl] jv (qd (qe 1) (jO (qd (dC (.int 9973)) qC)))) hri (by rw [hr5]; exact jj (by omega)) dc0
 have hout:jF [1] [x0,some (scr ns0),some (.lst t0)] 1 [0,1] [some (scr ns0),some (.lst []),none,none,none,none,none,none,none,none]=[some (scr ns0),some (.lst t0),none,none,none,none,none,none,none,none]:=rfl
 rw [hout] at d0
 unfold qcV
 rw [show qy Zo [scr ns0]=[some (scr ns0),none,none,none,none,none,none,none,none,none] from rfl]
 refine (qF (ρ1:=[some (scr ns0),some (.lst []),none,none,none,none,none,none,none,none]) (by simp)).trans ?_
 refine (qF (ρ1:=[some (scr ns0),some (.lst t0),some (.lst (is.map D.int)),none,none,none,none,none,none,none]) (by rw [zL,d0]; rfl)).trans ?_
 refine (qF (ρ1:=[some (scr ns0),some (.lst t1),some (.lst (is.map D.int)),none,none,none,some (Wd ws),some (Ld p q),some (.int r),some (nD ns)]) (by simp [qE,jl,g1,kg,qH,kf])).trans ?_
 have d3:=zm (own:=[2,1]) (cap:=[9,6,7,8]) (nt:=1) (fi:=kG (qv [.vl,.vl,.vl] zd (qd (qe 6) (qd (qe 7) (qd (qe 8) qC))))) (g:=gNm 0) (ft:=duT) (fe:=qe 0) (ρ:=[some (scr ns0),some (.lst t1),some (.lst (is.map D.int)),none,none,none,some (Wd ws),some (Ld p q),some (.int r),some (nD ns)]) (ρ1:=[some (scr ns0),some (.lst t1),some (.lst (is.map D.int)),none,none,none,some (Wd ws),some (Ld p q),some (.int r),some (nD ns)]) (ds:=rD E) (by simp [qE,jl,he,jK]) (by unfold rD; rw [ay]; exact be hEl KL) dc
 refine (qF (ρ1:=[some (scr ns0),some (.lst t1),some (.lst (is.map D.int)),some (.lst (rD A)),none,none,some (Wd ws),some (Ld p q),some (.int r),some (nD ns)]) (by rw [zL,d3]; rfl)).trans ?_
 have hlen:jI (.lst (rD A))=.ok (.int (A.length:Int)):=by simp [jI,rD]
 have z2:2<=sizeLine:=jj (by omega)
 have z7:7<=sizeLine:=jj (by omega)
 obtain ⟨x4,lp⟩:=Gb hask (some (scr ns0)) (some (.lst t1)) (some (.lst (is.map D.int))) none (is++[0,(A.length:Int) - 1]) none
 have hit:kG (d2 kt (qe 2) (wL (qd (dC (.int 0)) (qd (d2 Qi (d1 jI (qe 3)) (dC (.int 1))) qC)))) [some (scr ns0),some (.lst t1),some (.lst (is.map D.int)),some (.lst (rD A)),none,none,some (Wd ws),some (Ld p q),some (.int r),some (nD ns)]=.ok ((is++[0,(A.length:Int) - 1]).map D.int,[some (scr ns0),some (.lst t1),some (.lst (is.map D.int)),some (.lst (rD A)),none,none,some (Wd ws),some (Ld p q),some (.int r),some (nD ns)]):=by
  generalize D.lst (rD A)=Y at hlen ⊢
  simp [hlen,Qi,vV,z2,kt,hi1,z7,jK]
 refine (qF (ρ1:=[some (scr ns0),some (.lst t1),some (.lst (is.map D.int)),some (.lst (rD A)),x4,none,some (Wd ws),some (Ld p q),some (.int r),some (nD ns)]) (by
  rw [kq,hit,kz]
  exact lp)).trans ?_
 exact qgR hp (hwr d hd)
end Kx
namespace Kx
open PySem PySem.Spec PyProof.Rows L2 L2.D2
variable {us:List Value} {P:List Value->Prop}
theorem qhh (hl:us.length=0) (h:P []):P us:=dL.mp hl ▸ h
theorem qfq {n:Nat} (hl:us.length=n+1):∃ a l,us=a::l/\l.length=n:=by
 cases us with
 | nil=>cases hl
 | cons a l=>exact ⟨a,l,rfl,Nat.succ.inj hl⟩
theorem qhi (hl:us.length=1) (h:∀ a,P [a]):P us:=by
 obtain ⟨a,l,rfl,e⟩:=qfq hl
 exact qhh (P:=fun l=>P (a::l)) e (h a)
theorem qhj (hl:us.length=2) (h:∀ a b,P [a,b]):P us:=by
 obtain ⟨a,l,rfl,e⟩:=qfq hl
 exact qhi (P:=fun l=>P (a::l)) e (h a)
theorem qhk (hl:us.length=3) (h:∀ a b c,P [a,b,c]):P us:=by
 obtain ⟨a,l,rfl,e⟩:=qfq hl
 exact qhj (P:=fun l=>P (a::l)) e (h a)
theorem qhl (hl:us.length=4) (h:∀ a b c d,P [a,b,c,d]):P us:=by
 obtain ⟨a,l,rfl,e⟩:=qfq hl
 exact qhk (P:=fun l=>P (a::l)) e (h a)
theorem qhG (hl:us.length=5) (h:∀ a b c d e,P [a,b,c,d,e]):P us:=by
 obtain ⟨a,l,rfl,e⟩:=qfq hl
 exact qhl (P:=fun l=>P (a::l)) e (h a)
variable {K:Frag} {h:Heap} {mg:Str->Option Value}
theorem qD (X:K.In h) (G:h.Ns mainGlobals mg) {x:Str} {st:Stmt} {ps:List Str} {f:Addr} {oc:Value} {od an:Option Addr} {osl:Array (Option Value)} {kV doc pm cdv ct:Value}
  (a:nsIn K mainGlobals x=some (some (.ref f))) (l:K.lookup f=some ⟨oc,od,.func (cg x x (uK st) (kU st) (qf st) .none kV doc pm an cdv ct),osl⟩) (c:codeIn K cdv x=true) (k:keepIn K (.ref f)=true)
  (hb:∀ (kV doc pm:Value) (an:Option Addr) (cdv ct:Value) (us:List Value),us.length=ps.length->bindArgs (cg x x (uK st) (kU st) (qf st) .none kV doc pm an cdv ct) ⟨us,[]⟩=pure (ps.zip us):=by
   intro _ _ _ _ _ _ us hl
   first | refine qhh (P:=fun us=>bindArgs _ ⟨us,[]⟩=pure (fy _ us)) hl ?_ | refine qhi (P:=fun us=>bindArgs _ ⟨us,[]⟩=pure (fy _ us)) hl ?_ | refine qhj (P:=fun us=>bindArgs _ ⟨us,[]⟩=pure (fy _ us)) hl ?_ | refine qhk (P:=fun us=>bindArgs _ ⟨us,[]⟩=pure (fy _ us)) hl ?_ | refine qhl (P:=fun us=>bindArgs _ ⟨us,[]⟩=pure (fy _ us)) hl ?_ | refine qhG (P:=fun us=>bindArgs _ ⟨us,[]⟩=pure (fy _ us)) hl ?_
   all_goals intros; rfl):jf K mg x st ps:=
 ⟨f,_,YC l c k,mg_of X G a,(YC l c k).binds hb⟩
theorem Gd {l:List Str} {f:Str->Addr} (nd:(l.map f).Nodup) {x y:Str} (hx:x∈l) (hy:y∈l) (e:f x=f y):x=y:=by
 obtain ⟨i,hi,rfl⟩:=d8.mp hx
 obtain ⟨j,hj,rfl⟩:=d8.mp hy
 have q:=(eQ (h₀:=by simpa using hi) (h₁:=by simpa using hj) nd).mp (show (l.map f)[i]'(by simpa using hi)=(l.map f)[j]'(by simpa using hj) by simpa using e)
 subst q
 rfl
noncomputable def caT (T:List (Str×Addr)) (x:Str):Addr:=(T.lookup x).getD 0
noncomputable def qa3 (K:Frag) (Cs:List Addr) (W:Addr):Bool:=decide Cs.Nodup&&Cs.all fun c=>xcB K c&&decide (dj K (.ref c) (.ref W)=some true)&&decide (bU K (.ref c) (.type "ValueError")=some true)&&dB K c bmV "ValueError.__new__"&&Cs.all fun d=>decide (bU K (.ref c) (.ref d)=some (decide (c=d)))
theorem qa4 {Cs:List Addr} {W:Addr} (h:qa3 K Cs W=true):Cs.Nodup/\∀ c∈Cs,xcB K c=true/\dj K (.ref c) (.ref W)=some true/\bU K (.ref c) (.type "ValueError")=some true/\dB K c bmV "ValueError.__new__"=true/\∀ d∈Cs,bU K (.ref c) (.ref d)=some (decide (c=d)):=by
 unfold qa3 at h
 rw [aR,ba] at h
 refine ⟨of_decide_eq_true h.1,fun c hc=>?_⟩
 have q:=h.2 c hc
 simp only [aR,decide_eq_true_eq,ba] at q
 exact ⟨q.1.1.1.1,q.1.1.1.2,q.1.1.2,q.1.2,q.2⟩
theorem qfr {c:Str} (h:c∈CS):c = "NoWords"\/c = "NoLook"\/c = "NoNumbers"\/c = "NoRoom"\/c = "NoWord"\/c = "NoWorths"\/c = "Never"\/c = "Full"\/c = "Known"\/c = "NoPlace"\/c = "NoLetters"\/c = "NoText"\/c = "Nothing":=by simpa [CS] using h
theorem qgS (X:K.In h) (G:h.Ns mainGlobals mg) {CW C0 C1 C2 C3 C4 C5 C6 C7 C8 C9 C10 C11 C12:Addr}  {t_LEAST_PLACE t_MOST_LETTERS t_MOST_PLACE t_MOST_ROOM t_MOST_WORDS:Tok}
    (aW:nsIn K mainGlobals "WordError"=some (some (.ref CW)))
    (a0:nsIn K mainGlobals "NoWords"=some (some (.ref C0)))
    (a1:nsIn K mainGlobals "NoLook"=some (some (.ref C1)))
    (a2:nsIn K mainGlobals "NoNumbers"=some (some (.ref C2)))
    (a3:nsIn K mainGlobals "NoRoom"=some (some (.ref C3)))
    (a4:nsIn K mainGlobals "NoWord"=some (some (.ref C4)))
    (a5:nsIn K mainGlobals "NoWorths"=some (some (.ref C5)))
    (a6:nsIn K mainGlobals "Never"=some (some (.ref C6)))
    (a7:nsIn K mainGlobals "Full"=some (some (.ref C7)))
    (a8:nsIn K mainGlobals "Known"=some (some (.ref C8)))
    (a9:nsIn K mainGlobals "NoPlace"=some (some (.ref C9)))
    (a10:nsIn K mainGlobals "NoLetters"=some (some (.ref C10)))
    (a11:nsIn K mainGlobals "NoText"=some (some (.ref C11)))
    (a12:nsIn K mainGlobals "Nothing"=some (some (.ref C12)))
    (z_ValueError:nsIn K mainGlobals "ValueError"=some none)
    (z_all:nsIn K mainGlobals "all"=some none)
    (z_bool:nsIn K mainGlobals "bool"=some none)
    (z_dict:nsIn K mainGlobals "dict"=some none)
    (z_enumerate:nsIn K mainGlobals "enumerate"=some none)
    (z_int:nsIn K mainGlobals "int"=some none)
    (z_isinstance:nsIn K mainGlobals "isinstance"=some none)
    (z_len:nsIn K mainGlobals "len"=some none)
    (z_list:nsIn K mainGlobals "list"=some none)
    (z_max:nsIn K mainGlobals "max"=some none)
    (z_min:nsIn K mainGlobals "min"=some none)
    (z_range:nsIn K mainGlobals "range"=some none)
    (z_reversed:nsIn K mainGlobals "reversed"=some none)
    (z_set:nsIn K mainGlobals "set"=some none)
    (z_sorted:nsIn K mainGlobals "sorted"=some none)
    (z_str:nsIn K mainGlobals "str"=some none)
    (z_tuple:nsIn K mainGlobals "tuple"=some none)
    (c_LEAST_PLACE:nsIn K mainGlobals "LEAST_PLACE"=some (some (.int (-3) t_LEAST_PLACE)))
    (c_MOST_LETTERS:nsIn K mainGlobals "MOST_LETTERS"=some (some (.int 6 t_MOST_LETTERS)))
    (c_MOST_PLACE:nsIn K mainGlobals "MOST_PLACE"=some (some (.int 2 t_MOST_PLACE)))
    (c_MOST_ROOM:nsIn K mainGlobals "MOST_ROOM"=some (some (.int 99 t_MOST_ROOM)))
    (c_MOST_WORDS:nsIn K mainGlobals "MOST_WORDS"=some (some (.int 6 t_MOST_WORDS)))
    (ex:qa3 K [C0,C1,C2,C3,C4,C5,C6,C7,C8,C9,C10,C11,C12] CW=true)
     :
    Zt K mg (fun x=>.ref (caT [("WordError",CW),("NoWords",C0),("NoLook",C1),("NoNumbers",C2),("NoRoom",C3),("NoWord",C4),("NoWorths",C5),("Never",C6),("Full",C7),("Known",C8),("NoPlace",C9),("NoLetters",C10),("NoText",C11),("Nothing",C12)] x)) (caT [("WordError",CW),("NoWords",C0),("NoLook",C1),("NoNumbers",C2),("NoRoom",C3),("NoWord",C4),("NoWorths",C5),("Never",C6),("Full",C7),("Known",C8),("NoPlace",C9),("NoLetters",C10),("NoText",C11),("Nothing",C12)])/\qdu (caT [("WordError",CW),("NoWords",C0),("NoLook",C1),("NoNumbers",C2),("NoRoom",C3),("NoWord",C4),("NoWorths",C5),("Never",C6),("Full",C7),("Known",C8),("NoPlace",C9),("NoLetters",C10),("NoText",C11),("Nothing",C12)]):=by
  obtain ⟨nd,al⟩:=qa4 ex
  generalize hT:([("WordError",CW),("NoWords",C0),("NoLook",C1),("NoNumbers",C2),("NoRoom",C3),("NoWord",C4),("NoWorths",C5),("Never",C6),("Full",C7),("Known",C8),("NoPlace",C9),("NoLetters",C10),("NoText",C11),("Nothing",C12)]:List (Str×Addr))=T
  have eW:caT T "WordError"=CW:=by subst hT; kernel_rfl
  have e0:caT T "NoWords"=C0:=by subst hT; kernel_rfl
  have e1:caT T "NoLook"=C1:=by subst hT; kernel_rfl
  have e2:caT T "NoNumbers"=C2:=by subst hT; kernel_rfl
  have e3:caT T "NoRoom"=C3:=by subst hT; kernel_rfl
  have e4:caT T "NoWord"=C4:=by subst hT; kernel_rfl
  have e5:caT T "NoWorths"=C5:=by subst hT; kernel_rfl
  have e6:caT T "Never"=C6:=by subst hT; kernel_rfl
  have e7:caT T "Full"=C7:=by subst hT; kernel_rfl
  have e8:caT T "Known"=C8:=by subst hT; kernel_rfl
  have e9:caT T "NoPlace"=C9:=by subst hT; kernel_rfl
  have e10:caT T "NoLetters"=C10:=by subst hT; kernel_rfl
  have e11:caT T "NoText"=C11:=by subst hT; kernel_rfl
  have e12:caT T "Nothing"=C12:=by subst hT; kernel_rfl
  have hm:CS.map (caT T)=[C0,C1,C2,C3,C4,C5,C6,C7,C8,C9,C10,C11,C12]:=by
    unfold CS
    simp only [aG,bT,e0,e1,e2,e3,e4,e5,e6,e7,e8,e9,e10,e11,e12]
  have hin:∀ c∈CS,caT T c∈[C0,C1,C2,C3,C4,C5,C6,C7,C8,C9,C10,C11,C12]:=fun c hc=>hm ▸ ah.mpr ⟨c,hc,rfl⟩
  refine ⟨⟨⟨fun c hc=>rfl,fun c hc=>?_,fun c hc=>(al _ (hin c hc)).1,fun c hc d hd=>(al _ (hin c hc)).2.2.2.2 _ (hin d hd),fun c hc=>(al _ (hin c hc)).2.2.1⟩,fun c hc=>?_,fun c hc=>(al _ (hin c hc)).2.2.2.1,fun x hx=>absurd hx (by simp [FS]),?_,mg_none_of X G z_ValueError,mg_none_of X G z_all,mg_none_of X G z_bool,mg_none_of X G z_dict,mg_none_of X G z_enumerate,mg_none_of X G z_int,mg_none_of X G z_isinstance,mg_none_of X G z_len,mg_none_of X G z_list,mg_none_of X G z_max,mg_none_of X G z_min,mg_none_of X G z_range,mg_none_of X G z_reversed,mg_none_of X G z_set,mg_none_of X G z_sorted,mg_none_of X G z_str,mg_none_of X G z_tuple,⟨_,mg_of X G c_LEAST_PLACE⟩,⟨_,mg_of X G c_MOST_LETTERS⟩,⟨_,mg_of X G c_MOST_PLACE⟩,⟨_,mg_of X G c_MOST_ROOM⟩,⟨_,mg_of X G c_MOST_WORDS⟩⟩,fun x hx y hy e=>?_⟩
  · show dj K (.ref (caT T c)) (.ref (caT T "WordError"))=some true
    rw [eW]
    exact (al _ (hin c hc)).2.1
  · rcases qfr hc with rfl | rfl | rfl | rfl | rfl | rfl | rfl | rfl | rfl | rfl | rfl | rfl | rfl
    · rw [e0]; exact mg_of X G a0
    · rw [e1]; exact mg_of X G a1
    · rw [e2]; exact mg_of X G a2
    · rw [e3]; exact mg_of X G a3
    · rw [e4]; exact mg_of X G a4
    · rw [e5]; exact mg_of X G a5
    · rw [e6]; exact mg_of X G a6
    · rw [e7]; exact mg_of X G a7
    · rw [e8]; exact mg_of X G a8
    · rw [e9]; exact mg_of X G a9
    · rw [e10]; exact mg_of X G a10
    · rw [e11]; exact mg_of X G a11
    · rw [e12]; exact mg_of X G a12
  · show mg "WordError"=some (.ref (caT T "WordError"))
    rw [eW]
    exact mg_of X G aW
  ·
    rw [<-hm] at nd
    exact Gd nd hx hy e
structure Tx (K:Frag) (mg:Str->Option Value) (ca:Str->Addr):Prop where
 x_Lcell_at:jf K mg "_law_cell_at" ur ["_law_script", "_law_k"]
 x_Lmixed:jf K mg "_law_mixed" xZ ["_law_script", "_law_k", "_law_many"]
 x_Ldraw:jf K mg "_law_draw" QH ["_law_script", "_law_town", "_law_many"]
 x_Lpick:jf K mg "_law_pick" QI ["_law_script", "_law_town", "_law_some"]
 x_Lat:jf K mg "_law_at" UR ["_law_word_here", "_law_place"]
 x_Lseen:jf K mg "_law_seen" yW ["_law_words_here", "_law_look_here"]
 x_Lby:jf K mg "_law_by" US ["_law_words_here", "_law_look_here", "_law_room", "_law_book"]
 x_Lword:jf K mg "_law_word" yX ["_law_script", "_law_town", "_law_letters_here", "_law_most"]
 x_Lwords:jf K mg "_law_words" zb ["_law_script", "_law_town", "_law_most"]
 x_Llook:jf K mg "_law_look" QO ["_law_script", "_law_town"]
 x_Lletters:jf K mg "_law_letters" ut ["_law_words_here", "_law_look_here"]
 x_Ltold:jf K mg "_law_told" yZ ["_law_script", "_law_town", "_law_most", "_law_wide"]
 x_Levery:jf K mg "_law_every" uu ["_law_words_here", "_law_look_here", "_law_room"]
 x_is_between:jf K mg "is_between" vo ["thing", "least", "most"]
 x_is_letter:jf K mg "is_letter" we ["thing"]
 x_is_word:jf K mg "is_word" vL ["thing"]
 x_is_words:jf K mg "is_words" kS ["thing"]
 x_check_words:jf K mg "check_words" kL ["thing"]
 x_is_look:jf K mg "is_look" vM ["thing"]
 x_check_look:jf K mg "check_look" vt ["thing"]
 x_letter_at:jf K mg "letter_at" wk ["word", "place"]
 x_pairs:jf K mg "pairs" xf ["words", "look"]
 x_letters_of:jf K mg "letters_of" jt ["seen"]
 x_other_letter:jf K mg "other_letter" ku ["pair", "letter"]
 x_spread:jf K mg "spread" zf ["seen", "root", "ways"]
 x_ways_of:jf K mg "ways_of" yE ["seen"]
 x_circles_of:jf K mg "circles_of" vx ["seen", "ways"]
 x_is_odd:jf K mg "is_odd" zh ["walk"]
 x_first_odd:jf K mg "first_odd" wo ["circles"]
 x_comes_to:jf K mg "comes_to" ux ["walk", "numbers", "start"]
 x_half:jf K mg "half" WT ["total", "room"]
 x_root_worths:jf K mg "root_worths" kM ["walk", "room", "numbers"]
 x_roots_of:jf K mg "roots_of" jS ["seen", "room", "numbers"]
 x_worths_from:jf K mg "worths_from" kO ["seen", "room", "numbers", "starts"]
 x_check_room:jf K mg "check_room" vz ["thing"]
 x_is_numbers:jf K mg "is_numbers" jT ["thing", "count", "room"]
 x_check_numbers:jf K mg "check_numbers" kb ["thing", "count", "room"]
 x_told_pairs:jf K mg "told_pairs" vA ["words", "look", "room", "numbers"]
 x_bars:jf K mg "bars" WU ["walk", "room", "numbers"]
 x_bar_of:jf K mg "bar_of" uy ["seen", "room", "numbers"]
 x_bar:jf K mg "bar" qaL ["words", "look", "room", "numbers"]
 x_how_many:jf K mg "how_many" uz ["words", "look", "room", "numbers"]
 x_starts_at:jf K mg "starts_at" wx ["roots", "at"]
 x_worths_at:jf K mg "worths_at" wy ["words", "look", "room", "numbers", "at"]
 x_Lwhich:jf K mg "_law_which" zk ["_law_e"]
 x_Lask:jf K mg "_law_ask" WY ["_law_names", "_law_look_here", "_law_room", "_law_numbers", "_law_at_here"]
variable {cv:Str->Value} {ca:Str->Addr}
theorem qfs {P:Program} {w:World} {base:Heap} {f:Addr} {fd:FuncData} (Z:Zt K mg cv ca) (T:Tx K mg ca) (F:Fun K "law" "law" Jj f fd):FnOk P w K mg base (CXk P w) 11 f fd ["_law_script"] (spD K cv [.val] .sh (qaM ca)):=by
 have o_Lcell_at:=Vz (P:=P) (w:=w) (base:=base) Z T.x_Lcell_at 
 have o_Lmixed:=XV (P:=P) (w:=w) (base:=base) Z T.x_Lmixed o_Lcell_at
 have o_Ldraw:=qay (P:=P) (w:=w) (base:=base) Z T.x_Ldraw o_Lmixed
 have o_Lpick:=qaA (P:=P) (w:=w) (base:=base) Z T.x_Lpick o_Ldraw
 have o_Lat:=qeJ (P:=P) (w:=w) (base:=base) Z T.x_Lat 
 have o_Lseen:=qaC (P:=P) (w:=w) (base:=base) Z T.x_Lseen o_Lat
 have o_Lby:=qeL (P:=P) (w:=w) (base:=base) Z T.x_Lby o_Lseen
 have o_Lword:=qaF (P:=P) (w:=w) (base:=base) Z T.x_Lword o_Ldraw o_Lpick
 have o_Lwords:=Zb (P:=P) (w:=w) (base:=base) Z T.x_Lwords o_Ldraw o_Lpick o_Lword
 have o_Llook:=qaH (P:=P) (w:=w) (base:=base) Z T.x_Llook o_Ldraw
 have o_Lletters:=VH (P:=P) (w:=w) (base:=base) Z T.x_Lletters o_Lseen
 have o_Ltold:=qaI (P:=P) (w:=w) (base:=base) Z T.x_Ltold o_Ldraw o_Lwords o_Llook o_Lletters o_Lby
 have o_Levery:=Zd (P:=P) (w:=w) (base:=base) Z T.x_Levery o_Lletters
 have o_is_between:=QS (P:=P) (w:=w) (base:=base) Z T.x_is_between 
 have o_is_letter:=Ks (P:=P) (w:=w) (base:=base) Z T.x_is_letter 
 have o_is_word:=UU (P:=P) (w:=w) (base:=base) Z T.x_is_word o_is_letter
 have o_is_words:=VM (P:=P) (w:=w) (base:=base) Z T.x_is_words o_is_word
 have o_check_words:=gF (P:=P) (w:=w) (base:=base) Z T.x_check_words o_is_words
 have o_is_look:=UW (P:=P) (w:=w) (base:=base) Z T.x_is_look o_is_between
 have o_check_look:=QU (P:=P) (w:=w) (base:=base) Z T.x_check_look o_is_look
 have o_letter_at:=Kt (P:=P) (w:=w) (base:=base) Z T.x_letter_at 
 have o_pairs:=qaK (P:=P) (w:=w) (base:=base) Z T.x_pairs o_check_words o_check_look o_letter_at
 have o_letters_of:=QW (P:=P) (w:=w) (base:=base) Z T.x_letters_of 
 have o_other_letter:=zZ (P:=P) (w:=w) (base:=base) Z T.x_other_letter 
 have o_spread:=Ze (P:=P) (w:=w) (base:=base) Z T.x_spread o_other_letter
 have o_ways_of:=UX (P:=P) (w:=w) (base:=base) Z T.x_ways_of o_letters_of o_spread
 have o_circles_of:=QZ (P:=P) (w:=w) (base:=base) Z T.x_circles_of 
 have o_is_odd:=Zg (P:=P) (w:=w) (base:=base) Z T.x_is_odd 
 have o_first_odd:=Kv (P:=P) (w:=w) (base:=base) Z T.x_first_odd o_is_odd
 have o_comes_to:=VP (P:=P) (w:=w) (base:=base) Z T.x_comes_to 
 have o_half:=qcQ (P:=P) (w:=w) (base:=base) Z T.x_half 
 have o_root_worths:=gG (P:=P) (w:=w) (base:=base) Z T.x_root_worths o_comes_to o_half
 have o_roots_of:=VQ (P:=P) (w:=w) (base:=base) Z T.x_roots_of o_ways_of o_circles_of o_first_odd o_root_worths
 have o_worths_from:=gH (P:=P) (w:=w) (base:=base) Z T.x_worths_from o_comes_to o_ways_of
 have o_check_room:=Jb (P:=P) (w:=w) (base:=base) Z T.x_check_room o_is_between
 have o_is_numbers:=Jd (P:=P) (w:=w) (base:=base) Z T.x_is_numbers o_is_between
 have o_check_numbers:=xQ (P:=P) (w:=w) (base:=base) Z T.x_check_numbers o_is_numbers
 have o_told_pairs:=Je (P:=P) (w:=w) (base:=base) Z T.x_told_pairs o_check_room o_check_numbers o_pairs
 have o_bars:=qcR (P:=P) (w:=w) (base:=base) Z T.x_bars o_comes_to o_is_odd
 have o_bar_of:=Zl (P:=P) (w:=w) (base:=base) Z T.x_bar_of o_is_odd o_bars o_ways_of o_circles_of o_first_odd
 have o_bar:=qeO (P:=P) (w:=w) (base:=base) Z T.x_bar o_told_pairs o_bar_of
 have o_how_many:=VR (P:=P) (w:=w) (base:=base) Z T.x_how_many o_pairs o_bar o_roots_of
 have o_starts_at:=Ky (P:=P) (w:=w) (base:=base) Z T.x_starts_at 
 have o_worths_at:=Kz (P:=P) (w:=w) (base:=base) Z T.x_worths_at o_is_between o_pairs o_roots_of o_worths_from o_how_many o_starts_at
 have o_Lwhich:=Zm (P:=P) (w:=w) (base:=base) Z T.x_Lwhich 
 have o_Lask:=qcU (P:=P) (w:=w) (base:=base) Z T.x_Lask o_worths_at o_Lwhich
 exact qeP Z F o_Ldraw o_Lpick o_Lby o_Ltold o_Levery o_Lask
def qa5 (K:Frag):Sp:=fun vs H Q _=>∃ (a:Addr) (ns:List Int),vs=[.ref a]/\SqL K H a (ns.map V.int)/\∀ H',Q (.bl true) H'
theorem Uk {F:Hp}:∀ ns:List Int,IsL K F (ns.map V.int) (ns.map D.int)
 | []=>.nil
 | n::ns=>.cons (.int n) (Uk ns)
theorem qgT (h:qdu ca) (vs:List V) (H:Hp) (Q:VK) (E:XK) (q:qa5 K vs H Q E):spD K cv [.val] .sh (qaM ca) vs H Q E:=by
 obtain ⟨a,ns,rfl,hs,hq⟩:=q
 refine ⟨H,[scr ns],Same.refl _,⟨.lst hs (Uk ns),trivial⟩,cS,?_⟩
 rw [qfp h ns]
 intro v F' H' a1 a2 a3 a4
 have a4:Is K F' v (.bl true):=a4
 cases a4
 exact hq H'
abbrev NsX (K:Frag) (x:Str) (f:Addr):Prop:=nsIn K mainGlobals x=some (some (.ref f))
abbrev CdX (K:Frag) (v:Value) (x:Str):Prop:=codeIn K v x=true
abbrev KpX (K:Frag) (f:Addr):Prop:=keepIn K (.ref f)=true
abbrev LkX (K:Frag) (x:Str) (st:Stmt) (f:Addr) (oc:Value) (od an:Option Addr) (sl:Array (Option Value)) (kV dc pm cd ct:Value):Prop:=K.lookup f=some ⟨oc,od,.func (cg x x (uK st) (kU st) (qf st) .none kV dc pm an cd ct),sl⟩
theorem qft {l:fg} {w:World} {fa:Addr} (X:K.In h) (G:h.Ns mainGlobals mg) (hfa:mg "law"=some (.ref fa)) {CW C0 C1 C2 C3 C4 C5 C6 C7 C8 C9 C10 C11 C12:Addr} {t_LEAST_PLACE t_MOST_LETTERS t_MOST_PLACE t_MOST_ROOM t_MOST_WORDS:Tok} {f0 f1 f2 f3 f4 f5 f6 f7 f8 f9 f10 f11 f12 f13 f14 f15 f16 f17 f18 f19 f20 f21 f22 f23 f24 f25 f26 f27 f28 f29 f30 f31 f32 f33 f34 f35 f36 f37 f38 f39 f40 f41 f42 f43 f44 f45 f46:Addr} {v0 g0 h0 i0 j0 m0 v1 g1 h1 i1 j1 m1 v2 g2 h2 i2 j2 m2 v3 g3 h3 i3 j3 m3 v4 g4 h4 i4 j4 m4 v5 g5 h5 i5 j5 m5 v6 g6 h6 i6 j6 m6 v7 g7 h7 i7 j7 m7 v8 g8 h8 i8 j8 m8 v9 g9 h9 i9 j9 m9 v10 g10 h10 i10 j10 m10 v11 g11 h11 i11 j11 m11 v12 g12 h12 i12 j12 m12 v13 g13 h13 i13 j13 m13 v14 g14 h14 i14 j14 m14 v15 g15 h15 i15 j15 m15 v16 g16 h16 i16 j16 m16 v17 g17 h17 i17 j17 m17 v18 g18 h18 i18 j18 m18 v19 g19 h19 i19 j19 m19 v20 g20 h20 i20 j20 m20 v21 g21 h21 i21 j21 m21 v22 g22 h22 i22 j22 m22 v23 g23 h23 i23 j23 m23 v24 g24 h24 i24 j24 m24 v25 g25 h25 i25 j25 m25 v26 g26 h26 i26 j26 m26 v27 g27 h27 i27 j27 m27 v28 g28 h28 i28 j28 m28 v29 g29 h29 i29 j29 m29 v30 g30 h30 i30 j30 m30 v31 g31 h31 i31 j31 m31 v32 g32 h32 i32 j32 m32 v33 g33 h33 i33 j33 m33 v34 g34 h34 i34 j34 m34 v35 g35 h35 i35 j35 m35 v36 g36 h36 i36 j36 m36 v37 g37 h37 i37 j37 m37 v38 g38 h38 i38 j38 m38 v39 g39 h39 i39 j39 m39 v40 g40 h40 i40 j40 m40 v41 g41 h41 i41 j41 m41 v42 g42 h42 i42 j42 m42 v43 g43 h43 i43 j43 m43 v44 g44 h44 i44 j44 m44 v45 g45 h45 i45 j45 m45 v46 g46 h46 i46 j46 m46:Value} {o0 p0 o1 p1 o2 p2 o3 p3 o4 p4 o5 p5 o6 p6 o7 p7 o8 p8 o9 p9 o10 p10 o11 p11 o12 p12 o13 p13 o14 p14 o15 p15 o16 p16 o17 p17 o18 p18 o19 p19 o20 p20 o21 p21 o22 p22 o23 p23 o24 p24 o25 p25 o26 p26 o27 p27 o28 p28 o29 p29 o30 p30 o31 p31 o32 p32 o33 p33 o34 p34 o35 p35 o36 p36 o37 p37 o38 p38 o39 p39 o40 p40 o41 p41 o42 p42 o43 p43 o44 p44 o45 p45 o46 p46:Option Addr} {s0 s1 s2 s3 s4 s5 s6 s7 s8 s9 s10 s11 s12 s13 s14 s15 s16 s17 s18 s19 s20 s21 s22 s23 s24 s25 s26 s27 s28 s29 s30 s31 s32 s33 s34 s35 s36 s37 s38 s39 s40 s41 s42 s43 s44 s45 s46:Array (Option Value)}
  (aW:nsIn K mainGlobals "WordError"=some (some (.ref CW)))
  (a0:nsIn K mainGlobals "NoWords"=some (some (.ref C0)))
  (a1:nsIn K mainGlobals "NoLook"=some (some (.ref C1)))
  (a2:nsIn K mainGlobals "NoNumbers"=some (some (.ref C2)))
  (a3:nsIn K mainGlobals "NoRoom"=some (some (.ref C3)))
  (a4:nsIn K mainGlobals "NoWord"=some (some (.ref C4)))
  (a5:nsIn K mainGlobals "NoWorths"=some (some (.ref C5)))
  (a6:nsIn K mainGlobals "Never"=some (some (.ref C6)))
  (a7:nsIn K mainGlobals "Full"=some (some (.ref C7)))
  (a8:nsIn K mainGlobals "Known"=some (some (.ref C8)))
  (a9:nsIn K mainGlobals "NoPlace"=some (some (.ref C9)))
  (a10:nsIn K mainGlobals "NoLetters"=some (some (.ref C10)))
  (a11:nsIn K mainGlobals "NoText"=some (some (.ref C11)))
  (a12:nsIn K mainGlobals "Nothing"=some (some (.ref C12)))
  (z_ValueError:nsIn K mainGlobals "ValueError"=some none)
  (z_all:nsIn K mainGlobals "all"=some none)
  (z_bool:nsIn K mainGlobals "bool"=some none)
  (z_dict:nsIn K mainGlobals "dict"=some none)
  (z_enumerate:nsIn K mainGlobals "enumerate"=some none)
  (z_int:nsIn K mainGlobals "int"=some none)
  (z_isinstance:nsIn K mainGlobals "isinstance"=some none)
  (z_len:nsIn K mainGlobals "len"=some none)
  (z_list:nsIn K mainGlobals "list"=some none)
  (z_max:nsIn K mainGlobals "max"=some none)
  (z_min:nsIn K mainGlobals "min"=some none)
  (z_range:nsIn K mainGlobals "range"=some none)
  (z_reversed:nsIn K mainGlobals "reversed"=some none)
  (z_set:nsIn K mainGlobals "set"=some none)
  (z_sorted:nsIn K mainGlobals "sorted"=some none)
  (z_str:nsIn K mainGlobals "str"=some none)
  (z_tuple:nsIn K mainGlobals "tuple"=some none)
  (c_LEAST_PLACE:nsIn K mainGlobals "LEAST_PLACE"=some (some (.int (-3) t_LEAST_PLACE)))
  (c_MOST_LETTERS:nsIn K mainGlobals "MOST_LETTERS"=some (some (.int 6 t_MOST_LETTERS)))
  (c_MOST_PLACE:nsIn K mainGlobals "MOST_PLACE"=some (some (.int 2 t_MOST_PLACE)))
  (c_MOST_ROOM:nsIn K mainGlobals "MOST_ROOM"=some (some (.int 99 t_MOST_ROOM)))
  (c_MOST_WORDS:nsIn K mainGlobals "MOST_WORDS"=some (some (.int 6 t_MOST_WORDS)))
  (ex:qa3 K [C0,C1,C2,C3,C4,C5,C6,C7,C8,C9,C10,C11,C12] CW=true)
  (b_0:NsX K "_law_cell_at" f0) (l_0:LkX K "_law_cell_at" ur f0 v0 o0 p0 s0 g0 h0 i0 j0 m0) (d_0:CdX K j0 "_law_cell_at") (k_0:KpX K f0)
  (b_1:NsX K "_law_mixed" f1) (l_1:LkX K "_law_mixed" xZ f1 v1 o1 p1 s1 g1 h1 i1 j1 m1) (d_1:CdX K j1 "_law_mixed") (k_1:KpX K f1)
  (b_2:NsX K "_law_draw" f2) (l_2:LkX K "_law_draw" QH f2 v2 o2 p2 s2 g2 h2 i2 j2 m2) (d_2:CdX K j2 "_law_draw") (k_2:KpX K f2)
  (b_3:NsX K "_law_pick" f3) (l_3:LkX K "_law_pick" QI f3 v3 o3 p3 s3 g3 h3 i3 j3 m3) (d_3:CdX K j3 "_law_pick") (k_3:KpX K f3)
  (b_4:NsX K "_law_at" f4) (l_4:LkX K "_law_at" UR f4 v4 o4 p4 s4 g4 h4 i4 j4 m4) (d_4:CdX K j4 "_law_at") (k_4:KpX K f4)
  (b_5:NsX K "_law_seen" f5) (l_5:LkX K "_law_seen" yW f5 v5 o5 p5 s5 g5 h5 i5 j5 m5) (d_5:CdX K j5 "_law_seen") (k_5:KpX K f5)
  (b_6:NsX K "_law_by" f6) (l_6:LkX K "_law_by" US f6 v6 o6 p6 s6 g6 h6 i6 j6 m6) (d_6:CdX K j6 "_law_by") (k_6:KpX K f6)
  (b_7:NsX K "_law_word" f7) (l_7:LkX K "_law_word" yX f7 v7 o7 p7 s7 g7 h7 i7 j7 m7) (d_7:CdX K j7 "_law_word") (k_7:KpX K f7)
  (b_8:NsX K "_law_words" f8) (l_8:LkX K "_law_words" zb f8 v8 o8 p8 s8 g8 h8 i8 j8 m8) (d_8:CdX K j8 "_law_words") (k_8:KpX K f8)
  (b_9:NsX K "_law_look" f9) (l_9:LkX K "_law_look" QO f9 v9 o9 p9 s9 g9 h9 i9 j9 m9) (d_9:CdX K j9 "_law_look") (k_9:KpX K f9)
  (b_10:NsX K "_law_letters" f10) (l_10:LkX K "_law_letters" ut f10 v10 o10 p10 s10 g10 h10 i10 j10 m10) (d_10:CdX K j10 "_law_letters") (k_10:KpX K f10)
  (b_11:NsX K "_law_told" f11) (l_11:LkX K "_law_told" yZ f11 v11 o11 p11 s11 g11 h11 i11 j11 m11) (d_11:CdX K j11 "_law_told") (k_11:KpX K f11)
  (b_12:NsX K "_law_every" f12) (l_12:LkX K "_law_every" uu f12 v12 o12 p12 s12 g12 h12 i12 j12 m12) (d_12:CdX K j12 "_law_every") (k_12:KpX K f12)
  (b_13:NsX K "is_between" f13) (l_13:LkX K "is_between" vo f13 v13 o13 p13 s13 g13 h13 i13 j13 m13) (d_13:CdX K j13 "is_between") (k_13:KpX K f13)
  (b_14:NsX K "is_letter" f14) (l_14:LkX K "is_letter" we f14 v14 o14 p14 s14 g14 h14 i14 j14 m14) (d_14:CdX K j14 "is_letter") (k_14:KpX K f14)
  (b_15:NsX K "is_word" f15) (l_15:LkX K "is_word" vL f15 v15 o15 p15 s15 g15 h15 i15 j15 m15) (d_15:CdX K j15 "is_word") (k_15:KpX K f15)
  (b_16:NsX K "is_words" f16) (l_16:LkX K "is_words" kS f16 v16 o16 p16 s16 g16 h16 i16 j16 m16) (d_16:CdX K j16 "is_words") (k_16:KpX K f16)
  (b_17:NsX K "check_words" f17) (l_17:LkX K "check_words" kL f17 v17 o17 p17 s17 g17 h17 i17 j17 m17) (d_17:CdX K j17 "check_words") (k_17:KpX K f17)
  (b_18:NsX K "is_look" f18) (l_18:LkX K "is_look" vM f18 v18 o18 p18 s18 g18 h18 i18 j18 m18) (d_18:CdX K j18 "is_look") (k_18:KpX K f18)
  (b_19:NsX K "check_look" f19) (l_19:LkX K "check_look" vt f19 v19 o19 p19 s19 g19 h19 i19 j19 m19) (d_19:CdX K j19 "check_look") (k_19:KpX K f19)
  (b_20:NsX K "letter_at" f20) (l_20:LkX K "letter_at" wk f20 v20 o20 p20 s20 g20 h20 i20 j20 m20) (d_20:CdX K j20 "letter_at") (k_20:KpX K f20)
  (b_21:NsX K "pairs" f21) (l_21:LkX K "pairs" xf f21 v21 o21 p21 s21 g21 h21 i21 j21 m21) (d_21:CdX K j21 "pairs") (k_21:KpX K f21)
  (b_22:NsX K "letters_of" f22) (l_22:LkX K "letters_of" jt f22 v22 o22 p22 s22 g22 h22 i22 j22 m22) (d_22:CdX K j22 "letters_of") (k_22:KpX K f22)
  (b_23:NsX K "other_letter" f23) (l_23:LkX K "other_letter" ku f23 v23 o23 p23 s23 g23 h23 i23 j23 m23) (d_23:CdX K j23 "other_letter") (k_23:KpX K f23)
  (b_24:NsX K "spread" f24) (l_24:LkX K "spread" zf f24 v24 o24 p24 s24 g24 h24 i24 j24 m24) (d_24:CdX K j24 "spread") (k_24:KpX K f24)
  (b_25:NsX K "ways_of" f25) (l_25:LkX K "ways_of" yE f25 v25 o25 p25 s25 g25 h25 i25 j25 m25) (d_25:CdX K j25 "ways_of") (k_25:KpX K f25)
  (b_26:NsX K "circles_of" f26) (l_26:LkX K "circles_of" vx f26 v26 o26 p26 s26 g26 h26 i26 j26 m26) (d_26:CdX K j26 "circles_of") (k_26:KpX K f26)
  (b_27:NsX K "is_odd" f27) (l_27:LkX K "is_odd" zh f27 v27 o27 p27 s27 g27 h27 i27 j27 m27) (d_27:CdX K j27 "is_odd") (k_27:KpX K f27)
  (b_28:NsX K "first_odd" f28) (l_28:LkX K "first_odd" wo f28 v28 o28 p28 s28 g28 h28 i28 j28 m28) (d_28:CdX K j28 "first_odd") (k_28:KpX K f28)
  (b_29:NsX K "comes_to" f29) (l_29:LkX K "comes_to" ux f29 v29 o29 p29 s29 g29 h29 i29 j29 m29) (d_29:CdX K j29 "comes_to") (k_29:KpX K f29)
  (b_30:NsX K "half" f30) (l_30:LkX K "half" WT f30 v30 o30 p30 s30 g30 h30 i30 j30 m30) (d_30:CdX K j30 "half") (k_30:KpX K f30)
  (b_31:NsX K "root_worths" f31) (l_31:LkX K "root_worths" kM f31 v31 o31 p31 s31 g31 h31 i31 j31 m31) (d_31:CdX K j31 "root_worths") (k_31:KpX K f31)
  (b_32:NsX K "roots_of" f32) (l_32:LkX K "roots_of" jS f32 v32 o32 p32 s32 g32 h32 i32 j32 m32) (d_32:CdX K j32 "roots_of") (k_32:KpX K f32)
  (b_33:NsX K "worths_from" f33) (l_33:LkX K "worths_from" kO f33 v33 o33 p33 s33 g33 h33 i33 j33 m33) (d_33:CdX K j33 "worths_from") (k_33:KpX K f33)
  (b_34:NsX K "check_room" f34) (l_34:LkX K "check_room" vz f34 v34 o34 p34 s34 g34 h34 i34 j34 m34) (d_34:CdX K j34 "check_room") (k_34:KpX K f34)
  (b_35:NsX K "is_numbers" f35) (l_35:LkX K "is_numbers" jT f35 v35 o35 p35 s35 g35 h35 i35 j35 m35) (d_35:CdX K j35 "is_numbers") (k_35:KpX K f35)
  (b_36:NsX K "check_numbers" f36) (l_36:LkX K "check_numbers" kb f36 v36 o36 p36 s36 g36 h36 i36 j36 m36) (d_36:CdX K j36 "check_numbers") (k_36:KpX K f36)
  (b_37:NsX K "told_pairs" f37) (l_37:LkX K "told_pairs" vA f37 v37 o37 p37 s37 g37 h37 i37 j37 m37) (d_37:CdX K j37 "told_pairs") (k_37:KpX K f37)
  (b_38:NsX K "bars" f38) (l_38:LkX K "bars" WU f38 v38 o38 p38 s38 g38 h38 i38 j38 m38) (d_38:CdX K j38 "bars") (k_38:KpX K f38)
  (b_39:NsX K "bar_of" f39) (l_39:LkX K "bar_of" uy f39 v39 o39 p39 s39 g39 h39 i39 j39 m39) (d_39:CdX K j39 "bar_of") (k_39:KpX K f39)
  (b_40:NsX K "bar" f40) (l_40:LkX K "bar" qaL f40 v40 o40 p40 s40 g40 h40 i40 j40 m40) (d_40:CdX K j40 "bar") (k_40:KpX K f40)
  (b_41:NsX K "how_many" f41) (l_41:LkX K "how_many" uz f41 v41 o41 p41 s41 g41 h41 i41 j41 m41) (d_41:CdX K j41 "how_many") (k_41:KpX K f41)
  (b_42:NsX K "starts_at" f42) (l_42:LkX K "starts_at" wx f42 v42 o42 p42 s42 g42 h42 i42 j42 m42) (d_42:CdX K j42 "starts_at") (k_42:KpX K f42)
  (b_43:NsX K "worths_at" f43) (l_43:LkX K "worths_at" wy f43 v43 o43 p43 s43 g43 h43 i43 j43 m43) (d_43:CdX K j43 "worths_at") (k_43:KpX K f43)
  (b_44:NsX K "_law_which" f44) (l_44:LkX K "_law_which" zk f44 v44 o44 p44 s44 g44 h44 i44 j44 m44) (d_44:CdX K j44 "_law_which") (k_44:KpX K f44)
  (b_45:NsX K "_law_ask" f45) (l_45:LkX K "_law_ask" WY f45 v45 o45 p45 s45 g45 h45 i45 j45 m45) (d_45:CdX K j45 "_law_ask") (k_45:KpX K f45)
  (b_46:NsX K "law" f46) (l_46:LkX K "law" Jj f46 v46 o46 p46 s46 g46 h46 i46 j46 m46) (d_46:CdX K j46 "law") (k_46:KpX K f46) :
  ∃ fd:FuncData,(∀ (s:Shared) (v:Value),BindsTo s fd ⟨[v],[]⟩ [("_law_script",v)])/\∀ base:Heap,K.In base->base.Ns mainGlobals mg->FnOk l.prog w K mg base (CXk l.prog w) 11 fa fd ["_law_script"] (qa5 K):=by
 have e:=hfa.symm.trans (mg_of X G b_46)
 cases e
 obtain ⟨Z,cok⟩:=qgS X G aW a0 a1 a2 a3 a4 a5 a6 a7 a8 a9 a10 a11 a12 z_ValueError z_all z_bool z_dict z_enumerate z_int z_isinstance z_len z_list z_max z_min z_range z_reversed z_set z_sorted z_str z_tuple c_LEAST_PLACE c_MOST_LETTERS c_MOST_PLACE c_MOST_ROOM c_MOST_WORDS ex
 have T:Tx K mg (caT [("WordError",CW),("NoWords",C0),("NoLook",C1),("NoNumbers",C2),("NoRoom",C3),("NoWord",C4),("NoWorths",C5),("Never",C6),("Full",C7),("Known",C8),("NoPlace",C9),("NoLetters",C10),("NoText",C11),("Nothing",C12)]):=⟨qD X G b_0 l_0 d_0 k_0,qD X G b_1 l_1 d_1 k_1,qD X G b_2 l_2 d_2 k_2,qD X G b_3 l_3 d_3 k_3,qD X G b_4 l_4 d_4 k_4,qD X G b_5 l_5 d_5 k_5,qD X G b_6 l_6 d_6 k_6,qD X G b_7 l_7 d_7 k_7,qD X G b_8 l_8 d_8 k_8,qD X G b_9 l_9 d_9 k_9,qD X G b_10 l_10 d_10 k_10,qD X G b_11 l_11 d_11 k_11,qD X G b_12 l_12 d_12 k_12,qD X G b_13 l_13 d_13 k_13,qD X G b_14 l_14 d_14 k_14,qD X G b_15 l_15 d_15 k_15,qD X G b_16 l_16 d_16 k_16,qD X G b_17 l_17 d_17 k_17,qD X G b_18 l_18 d_18 k_18,qD X G b_19 l_19 d_19 k_19,qD X G b_20 l_20 d_20 k_20,qD X G b_21 l_21 d_21 k_21,qD X G b_22 l_22 d_22 k_22,qD X G b_23 l_23 d_23 k_23,qD X G b_24 l_24 d_24 k_24,qD X G b_25 l_25 d_25 k_25,qD X G b_26 l_26 d_26 k_26,qD X G b_27 l_27 d_27 k_27,qD X G b_28 l_28 d_28 k_28,qD X G b_29 l_29 d_29 k_29,qD X G b_30 l_30 d_30 k_30,qD X G b_31 l_31 d_31 k_31,qD X G b_32 l_32 d_32 k_32,qD X G b_33 l_33 d_33 k_33,qD X G b_34 l_34 d_34 k_34,qD X G b_35 l_35 d_35 k_35,qD X G b_36 l_36 d_36 k_36,qD X G b_37 l_37 d_37 k_37,qD X G b_38 l_38 d_38 k_38,qD X G b_39 l_39 d_39 k_39,qD X G b_40 l_40 d_40 k_40,qD X G b_41 l_41 d_41 k_41,qD X G b_42 l_42 d_42 k_42,qD X G b_43 l_43 d_43 k_43,qD X G b_44 l_44 d_44 k_44,qD X G b_45 l_45 d_45 k_45⟩
 have F:=YC (st:=Jj) l_46 d_46 k_46
 exact ⟨_,fun s v=>.of_eq rfl,fun base _ _=>(qfs (P:=l.prog) (w:=w) (base:=base) Z T F).imp fun vs H Q E q=>qgT cok vs H Q E q⟩
theorem qhH {l:fg} {q:Program} {loose:List Str} {XP:(Str->Option Value)->Heap->Prop} {YP:World->Heap->Prop} {d:DefRec} {K:Params->Frag} (hn:l.most=some 63) (hdf:d.params.defaults=[])
  (hY:∀ (w:World) (h:Heap),YP w h->(K w.params).In h)
  (F:∀ (w:World) (mg:Str->Option Value) (fa:Addr) (h:Heap),(K w.params).In h->h.Ns mainGlobals mg->mg d.name=some (.ref fa) ->
   ∃ fd:FuncData,(∀ (s:Shared) (u:Value),BindsTo s fd ⟨[u],[]⟩ [("_law_script",u)])/\∀ base:Heap,(K w.params).In base->base.Ns mainGlobals mg->FnOk l.prog w (K w.params) mg base (CXk l.prog w) 11 fa fd ["_law_script"] (qa5 (K w.params))) :
  PySem.W.WalkO q loose XP YP l.row.toRowW d [] (fun f vs=>fK f vs):=
 L2.qb1 (n:=63) (k:=11) (x := "_law_script") (CX:=fun w=>CXk l.prog w) (sp:=fun w=>qa5 (K w.params)) hn (by decide) hdf ⟨rfl,by decide,by decide⟩ hY F (fun _ _ a ns hl _ hS=>⟨a,ns,rfl,hS,fun _=>rfl⟩) fun w H s e s' z=>by
  obtain ⟨ex,T,C,H',_,_,_,_,_,_,_,_,_,_,q⟩:=z
  exact q.elim
end Kx
open PySem PySem.W PyProof.Rows
set_option maxRecDepth 100000 in
set_option maxHeartbeats 0 in
theorem PySem.Challenge.cw_lookwords_k10_whole_worths_at_holds : PySem.Challenge.rw_lookwords_k10_whole_worths_at.Holds := by
  refine Kx.hd ?_
  k_fill
  refine Kx.qhH (l := PySem.Challenge.rw_lookwords_k10_whole_worths_at) rfl rfl (fun w h Y => PySem.W.kIn_of Y) ?F
  case F =>
    intro w mg fa h KX G hmg
    refine' Kx.qft KX G hmg ?_ ?_ ?_ ?_ ?_ ?_ ?_ ?_ ?_ ?_ ?_ ?_ ?_ ?_ ?_ ?_ ?_ ?_ ?_ ?_ ?_ ?_ ?_ ?_ ?_ ?_ ?_ ?_ ?_ ?_ ?_ ?_ ?_ ?_ ?_ ?_ ?_ ?_ ?_ ?_ ?_ ?_ ?_ ?_ ?_ ?_ ?_ ?_ ?_ ?_ ?_ ?_ ?_ ?_ ?_ ?_ ?_ ?_ ?_ ?_ ?_ ?_ ?_ ?_ ?_ ?_ ?_ ?_ ?_ ?_ ?_ ?_ ?_ ?_ ?_ ?_ ?_ ?_ ?_ ?_ ?_ ?_ ?_ ?_ ?_ ?_ ?_ ?_ ?_ ?_ ?_ ?_ ?_ ?_ ?_ ?_ ?_ ?_ ?_ ?_ ?_ ?_ ?_ ?_ ?_ ?_ ?_ ?_ ?_ ?_ ?_ ?_ ?_ ?_ ?_ ?_ ?_ ?_ ?_ ?_ ?_ ?_ ?_ ?_ ?_ ?_ ?_ ?_ ?_ ?_ ?_ ?_ ?_ ?_ ?_ ?_ ?_ ?_ ?_ ?_ ?_ ?_ ?_ ?_ ?_ ?_ ?_ ?_ ?_ ?_ ?_ ?_ ?_ ?_ ?_ ?_ ?_ ?_ ?_ ?_ ?_ ?_ ?_ ?_ ?_ ?_ ?_ ?_ ?_ ?_ ?_ ?_ ?_ ?_ ?_ ?_ ?_ ?_ ?_ ?_ ?_ ?_ ?_ ?_ ?_ ?_ ?_ ?_ ?_ ?_ ?_ ?_ ?_ ?_ ?_ ?_ ?_ ?_ ?_ ?_ ?_ ?_ ?_ ?_ ?_ ?_ ?_ ?_ ?_ ?_ ?_ ?_ ?_ ?_ ?_ ?_ ?_ ?_ ?_ ?_ ?_ ?_ ?_ ?_ ?_
    all_goals try first | k_is | (unfold Kx.NsX; k_is) | (unfold Kx.LkX; k_is) | (unfold Kx.CdX; k_is) | (unfold Kx.KpX; k_is) | kernel_rfl

