import PyProof.Rows.All
import KE.KTryMore
import KE.KDictOf
import KE.KItem
import KE.KRevSl
import KE.KRevIter
import KE.KDictList
import PySem.Challenge.RW_lookwords_k19_whole_mirrored
noncomputable section
open PySem.W (Frag nsIn keepIn codeIn mg_of mg_none_of)
set_option Elab.async false
set_option linter.all false
set_option maxRecDepth 100000
namespace Kx
noncomputable section
open PySem PySem.W PySem.Calls PyProof.Rows
noncomputable def zP:Pos:=⟨0,0,0,0⟩
noncomputable def anV:Option Value:=some (.ref 6)
noncomputable def hA (P:Params):List Obj:=(boot_heap P).objs.toList++[⟨.type "tuple",none,.seq #[] 0,#[]⟩,⟨.none,none,.fields #[],#[]⟩,
 ⟨.type "code",none,.fields #[.str "<module>" 182,.str "<module>" 183,.str "/claim/cut.py" 184,.int 1 0,.int 0 0,.int 0 0,.int 0 0,.int 0 0,.ref 11,.bool false,.int 181 0,.ref 12,.none,.none,.none,.none,.int 185 0,.int 1 0,.str "/claim/cut.py" 186],#[]⟩,
 ⟨.type "frame",none,.plain,#[some (.ref 13),some (.ref 3),some (.ref 3),none,some (.str "__main__" 164),none,some (.ref 0)]⟩]
noncomputable def enP (p:Program):Env:={ scope:=p.main.scope,locals:=mainNs,globals:=mainNs,cells:=[],code:=.ref 13,frame:=some 14 }
noncomputable def cdP (p:Program):Code:=.body (behindTheImports p) (enP p)
noncomputable def trA:List Obj->Nat->BT->BT
 | [],_,t=>t
 | o::l,i,t=>trA l (i+1) (t.ins i o)
noncomputable def SA (w:World) (os:OsState):SharedT:=⟨trA (hA w.params) 0 .nil,15,(boot_heap w.params).life,Array.mk [],boot_drawn,187,os⟩
noncomputable def qd2 (p:Program) (w:World) (M:Nat) (os:OsState):Option (Flow×Code×Shared):=
 (segRunT treeTable p w 11 anV 1 M (SA w os) (piecesOf (behindTheImports p) (enP p) (cdP p) zP [topFrame zP])).bind fun r=>
  (topRun treeTable p w 11 anV 5 r.2.1.abs (restOf [] (enP p) (cdP p) r.2.2.2 [topFrame zP])).map fun s=>(r.1,r.2.2.1,s)
abbrev qaj (p q:Program) (loose:List Str) (Xt:Shared->Bool) (w:World) (x:Flow×Code×Shared):=
 (x.1,x.2.1,(staticsOk (importedModules p.main.body) (boot_heap w.params) x.2.2.heap&&namesBound p x.2.2.heap&&gensDone x.2.2&&laidKept (boot_heap w.params) x.2.2.heap),openSeen q loose (importedModules p.main.body) Xt true x.2.2)
theorem left_T {p q:Program} {loose:List Str} {Xt:Shared->Bool} {α:Type} {Yf:Shared->α} {Ya:World->α} {N M:Nat}
  (e:opening p=plainProg p.main.scope.names) (hN:Nat.ble 600 N=true) (f:∀ s,fenceModules? p s=some s)
  (size:∀ w:World,((boot_heap w.params).isNs mainGlobals&&(Array.mk []:Array GenState).size == 0,(boot_heap w.params).objs.size,(boot_heap w.params).nsMap mainGlobals "__annotations__")=(true,11,anV))
  (pre:∀ (w:World) (os:OsState),topGo treeTable p w 11 anV 12 ⟨boot_heap w.params,Array.mk [],boot_drawn,boot_toks,os⟩ (topStub p)=some ((SA w os).abs,⟨denote treeTable (cdP p),cdP p,zP,[topFrame zP]⟩))
  (blk:∀ (w:World) (os:OsState),segRun treeTable p w 11 anV 1 1 (SA w os).abs (blockOf (behindTheImports p) (enP p) (cdP p) zP [topFrame zP])=some (.next,(SA w os).abs,cdP p,zP))
  (le:Nat.ble (12+(1+(M+5))) N=true)
  (m1:∀ (w:World) (os:OsState),(qd2 p w M os).map (qaj p q loose Xt w)=some (.next,cdP p,true,openGood q loose))
  (m2:∀ (w:World) (os:OsState),(qd2 p w M os).map (fun x=>Yf x.2.2)=some (Ya w)):LeftO p q loose Xt Yf Ya N:=fun w=>by
 obtain ⟨⟨h,gs,d,k,os⟩,a,a'⟩:=Option.map_eq_some_iff.mp (boot_open e hN f w)
 obtain ⟨rfl,rfl,rfl,rfl⟩:h=boot_heap w.params/\gs=Array.mk []/\d=boot_drawn/\k=boot_toks:=by simpa using a'
 obtain ⟨x,hx,hl⟩:=Option.map_eq_some_iff.mp (m1 w os)
 obtain ⟨y,hy,hY⟩:=Option.map_eq_some_iff.mp (m2 w os)
 obtain rfl:y=x:=Option.some.inj (hy.symm.trans hx)
 obtain ⟨r,hr,hz⟩:=Option.bind_eq_some_iff.mp hx
 obtain ⟨s,hs,rfl⟩:=Option.map_eq_some_iff.mp hz
 obtain ⟨fl,st,co,po⟩:=r
 unfold qaj at hl
 simp only [Prod.mk.injEq] at hl
 obtain ⟨rfl,rfl,l1,l2⟩:=hl
 have t1:=piece_app (rest:=[]) (segRun_of hr) hs
 rw [List.append_nil] at t1
 have t2:=piece_block (blk w os) t1
 have t3:=topRun_mono (N - (12+(1+(M+5)))) _ _ _ _ (go_top (pre w os) t2)
 rw [show 12+(1+(M+5))+(N - (12+(1+(M+5))))=N by have:=Nat.le_of_ble_eq_true le; omega] at t3
 obtain ⟨z1,z2,z3⟩:_/\_/\_:=by simpa only [Prod.mk.injEq] using size w
 have t:topFrom treeTable p w N ⟨boot_heap w.params,Array.mk [],boot_drawn,boot_toks,os⟩=some s:=by
  unfold topFrom
  dsimp only
  rw [z1,z2,z3,t3]
  show (match staticsOk (importedModules p.main.body) (boot_heap w.params) s.heap&&namesBound p s.heap&&gensDone s&&laidKept (boot_heap w.params) s.heap with | true=>_ | false=>_)=_
  rw [l1]
 unfold openEnds
 rw [a]
 show (topFrom treeTable p w N _).map _=_
 rw [t]
 exact congrArg some (Prod.ext l2 hY)
end
end Kx
noncomputable section
open PySem PySem.W PyProof.Rows
noncomputable def Kx.vq:Program:=view PySem.Challenge.pw_lookwords_k19_whole_mirrored [1,2,3,4,5,7,8,9,10,11,12,13,14,15,16,17,18,19,20,21,23,24,25,27,28,29,30,31,32,33,34,35,36,37,38,39,40,42,44,45,46,48,50,51,52,53,54,55,56,57,58,59,60,61,62]
noncomputable def Kx.xt (s:Shared):Bool:=xlAt Kx.vq [] s&&recOk (RowW.records (OpenRow.toRowW (OpenLaw.row PySem.Challenge.rw_lookwords_k19_whole_mirrored))) s
theorem Kx.m1:∀ (w:World) (os:OsState),(Kx.qd2 PySem.Challenge.pw_lookwords_k19_whole_mirrored w 15000 os).map (Kx.qaj PySem.Challenge.pw_lookwords_k19_whole_mirrored Kx.vq [] Kx.xt w)=some (.next,Kx.cdP PySem.Challenge.pw_lookwords_k19_whole_mirrored,true,openGood Kx.vq []):=by intro w os; kernel_rfl
local macro_rules | `(tactic| o_head $H) => `(tactic| (refine holds_open (q := Kx.vq) (loose := []) (Xt := Kx.xt) (XP := XL Kx.vq []) (Yf := Hook.obs $H) (Ya := Hook.val $H) (YP := Hook.says $H) (N := 20000) ?hl (Hook.of $H) (Hook.keeps $H) (fun s e => xl_of s (Bool.and_eq_true_iff.mp e).1) XL.keeps (by rfl) (by rfl) (by rfl) (fun s e => recFacts_of (Bool.and_eq_true_iff.mp e).2) (by rfl) (by first | assumption | decide +kernel) (by decide +kernel) ⟨rfl, rfl, rfl, rfl, rfl, by decide +kernel⟩ ?hw ?hc; (case hl => refine Kx.left_T (p := PySem.Challenge.pw_lookwords_k19_whole_mirrored) (M := 15000) ?e rfl ?f ?s ?p ?b rfl Kx.m1 ?m; (case e => kernel_rfl); (case f => intro s; kernel_rfl); (case s => intro w; kernel_rfl); (case p => intro w os; kernel_rfl); (case b => intro w os; kernel_rfl); (case m => intro w os; kernel_rfl))))
set_option maxHeartbeats 0 in
open_top Kx.hd for PySem.Challenge.rw_lookwords_k19_whole_mirrored
end
namespace L2
open PySem PySem.Spec PyProof.Rows
abbrev Key:=Sum Int Str
noncomputable def xw:Key->Value->Bool
 | .inl k,v=>Value.isInt k v
 | .inr x,v=>Value.isStrOf x v
noncomputable def qfv (w:World):Key->Int
 | .inl k=>hashInt k
 | .inr x=>hashStr w x
theorem qX:∀ {k:Key} {v:Value},xw k v=true->(∃ i t,k=Sum.inl i/\v=Value.int i t)\/(∃ x t,k=Sum.inr x/\v=Value.str x t)
 | .inl i,v,h=>by
  obtain ⟨t,e⟩:=Value.isInt_shape (k:=i) (v:=v) h
  exact .inl ⟨i,t,rfl,e⟩
 | .inr x,v,h=>by
  obtain ⟨t,e⟩:=Value.isStrOf_shape (x:=x) (v:=v) h
  exact .inr ⟨x,t,rfl,e⟩
theorem QC (i:Int) (t:Tok):xw (.inl i) (.int i t)=true:=by simp [xw,Value.isInt]
theorem QD (x:Str) (t:Tok):xw (.inr x) (.str x t)=true:=by simp [xw,Value.isStrOf]
theorem qb0 (a b:Int):decide ((Sum.inl a:Key)=Sum.inl b)=(a == b):=by
 by_cases e:a=b
 ·subst e; simp
 ·have h:¬(Sum.inl a:Key)=Sum.inl b:=fun q=>e (Sum.inl.inj q)
  rw [decide_eq_false h]
  exact (beq_eq_false_iff_ne.mpr e).symm
theorem qb1 (a b:Str):decide ((Sum.inr a:Key)=Sum.inr b)=decide (a=b):=by
 by_cases e:a=b
 ·subst e; simp
 ·have h:¬(Sum.inr a:Key)=Sum.inr b:=fun q=>e (Sum.inr.inj q)
  rw [decide_eq_false h,decide_eq_false e]
theorem qb2 (a:Int) (b:Str):decide ((Sum.inl a:Key)=Sum.inr b)=false:=decide_eq_false (fun q=>nomatch q)
theorem qb3 (a:Str) (b:Int):decide ((Sum.inr a:Key)=Sum.inl b)=false:=decide_eq_false (fun q=>nomatch q)
noncomputable def qS (prog:Program) (w:World):PySem.KeyKind prog w Key where
 is:=xw
 hash:=qfv w
 inj:=fun v a b ha hb=>by
  rcases qX ha with ⟨i,t,rfl,rfl⟩ | ⟨x,t,rfl,rfl⟩
  ·rcases qX hb with ⟨j,u,rfl,e⟩ | ⟨y,u,rfl,e⟩
   ·injection e with e1 _; rw [e1]
   ·exact nomatch e
  ·rcases qX hb with ⟨j,u,rfl,e⟩ | ⟨y,u,rfl,e⟩
   ·exact nomatch e
   ·injection e with e1 _; rw [e1]
 byValue:=fun k v h=>by
  rcases qX h with ⟨i,t,rfl,rfl⟩ | ⟨x,t,rfl,rfl⟩ <;> rfl
 pyHash:=fun hv h=>by
  rcases qX hv with ⟨i,t,rfl,rfl⟩ | ⟨x,t,rfl,rfl⟩
  ·exact wpAny_pyHash_int h
  ·exact wpAny_pyHash_str h
 eqBool:=fun hu hv h=>by
  rcases qX hu with ⟨i,t,rfl,rfl⟩ | ⟨x,t,rfl,rfl⟩
  ·rcases qX hv with ⟨j,u,rfl,rfl⟩ | ⟨y,u,rfl,rfl⟩
   ·rw [qb0] at h; exact wpAny_eqBool_int h
   ·rw [qb2] at h; exact SeqAt.EqAt.int_str i t y u _ _ _ _ h
  ·rcases qX hv with ⟨j,u,rfl,rfl⟩ | ⟨y,u,rfl,rfl⟩
   ·rw [qb3] at h; exact SeqAt.EqAt.str_int x t j u _ _ _ _ h
   ·rw [qb1] at h; exact wpAny_eqBool_str h
 «strs»:=fun k x t v h=>by
  rcases qX h with ⟨i,u,rfl,e⟩ | ⟨y,u,rfl,e⟩
  ·exact nomatch e
  ·injection e with e1 _
   subst e1
   cases v <;> rfl
theorem JR (prog:Program) (w:World) (i:Int) (t:Tok):(qS prog w).is (.inl i) (.int i t)=true:=QC i t
theorem JS (prog:Program) (w:World) (x:Str) (t:Tok):(qS prog w).is (.inr x) (.str x t)=true:=QD x t
inductive V where
 | non | bl (b:Bool) | int (i:Int) | str (x:Str) | byt (b:Array UInt8) | flt (b:UInt64) | ref (a:Addr) | ty (n:String)
 deriving DecidableEq
def RelV:V->Value->Prop
 | .non,u=>u=Value.none
 | .bl b,u=>u=Value.bool b
 | .int i,u=>∃ t,u=Value.int i t
 | .str x,u=>∃ t,u=Value.str x t
 | .byt b,u=>∃ t,u=Value.bytes b t
 | .flt b,u=>∃ t,u=Value.float b t
 | .ref a,u=>u=Value.ref a
 | .ty n,u=>u=Value.type n
abbrev Vals:List V->List Value->Prop:=Paired RelV
theorem Vals.length {xs:List V} {us:List Value} (r:Vals xs us):xs.length=us.length:=Paired.length r
theorem Vals.get:∀ {xs:List V} {us:List Value} {i:Nat} {x:V},Vals xs us->xs[i]?=some x->∃ u,us[i]?=some u/\RelV x u
 | _,_,_,_,.nil,e=>by simp at e
 | _,_,0,_,.cons r _,e=>by simp at e; subst e; exact ⟨_,rfl,r⟩
 | _,_,i+1,x,.cons _ t,e=>by
  obtain ⟨u,h1,h2⟩:=Vals.get (i:=i) (x:=x) t (by simpa using e)
  exact ⟨u,by simpa using h1,h2⟩
theorem Vals.set {x:V} {u:Value} (r:RelV x u):∀ {xs:List V} {us:List Value} (i:Nat),Vals xs us->Vals (xs.set i x) (us.set i u)
 | _,_,_,.nil=>.nil
 | _,_,0,.cons _ t=>.cons r t
 | _,_,i+1,.cons q t=>.cons q (Vals.set r i t)
theorem Vals.append:∀ {xs ys:List V} {us ws:List Value},Vals xs us->Vals ys ws->Vals (xs++ys) (us++ws)
 | _,_,_,_,.nil,s=>s
 | _,_,_,_,.cons r t,s=>.cons r (Vals.append t s)
theorem Vals.none_of:∀ {xs:List V} {us:List Value} {i:Nat},Vals xs us->xs[i]?=none->us[i]?=none:=fun {xs us i} r e=>by
 have h1:=r.length
 have h2:xs.length<=i:=List.getElem?_eq_none_iff.mp e
 exact List.getElem?_eq_none_iff.mpr (by omega)
def RelO:Option V->Option Value->Prop
 | some v,some u=>RelV v u
 | none,none=>True
 | _,_=>False
def KV {κ:Type}:List (κ×V)->List (κ×Value)->Prop:=Paired fun (p:κ×V) (q:κ×Value)=>p.1=q.1/\RelV p.2 q.2
noncomputable def kV:Key->V
 | .inl i=>.int i
 | .inr x=>.str x
inductive HO where
 /-- a list -/
 | lst (xs:List V)
 /-- a tuple (never changes) -/
 | tup (xs:List V)
 /-- a dict whose keys are ints and texts; one whose keys are tuples of ints and texts (the empty one is both) -/
 | dK (kvs:List (Key×V)) | dT (kvs:List (List Key×V))
 /-- a set of ints: its members,its size -/
 | set (S:Int->Bool) (n:Nat)
 /-- an instance of the class at C,its dict at dx,its attributes -/
 | ins (C dx:Addr) (fs:List (Str×V))
 /-- the dict of the instance at x -/
 | own (x:Addr)
 /-- the dict of an exception -/
 | xd (fs:List (Str×V))
 /-- a bound method,f of x -/
 | met (f x:Addr)
 /-- a range object lo,lo+1,.. below hi -/
 | rng (lo hi:Int)
 /-- a thing that is known to the object (the script; a dict while a loop walks it): read,never written while it is so -/
 | frz (o:Obj) (u:HO)
 /-- a code object's table -/
 | tbl (ps:Array Value)
 /-- any other thing,by what is true of its one object (a def of one's own: SetO a S n:=HO.ext fun h=>..) -/
 | ext (φ:Heap->Prop)
abbrev Hp:=Addr->Option HO
noncomputable def upd (H:Hp) (a:Addr) (o:HO):Hp:=fun b=>if b=a then some o else H b
theorem qo {H:Hp} {a:Addr} {o:HO}:upd H a o a=some o:=by unfold upd; rw [if_pos rfl]
theorem qA {H:Hp} {a b:Addr} {o:HO} (h:b≠a):upd H a o b=H b:=by unfold upd; rw [if_neg h]
theorem qd3 {H:Hp} {a b:Addr} {o u:HO} (h:H a=some o) (h':H b=some u) (d:o≠u):a≠b:=by
 intro e; subst e; rw [h] at h'; exact d (Option.some.inj h')
theorem qE {H:Hp} {a b:Addr} {o:HO} (h:H a=some o) (h':H b=none):a≠b:=by
 intro e; subst e; rw [h] at h'; cases h'
section
variable (P:Program) (w:World)
def ObjOk (H:Hp) (h:Heap) (a:Addr):HO->Prop
 | .lst xs=>xs.length<=sizeLine/\∃ (its:List Value) (n:Nat),Vals xs its/\h.get? a=some { cls:=.type "list",data:=.seq its.toArray n }
 | .tup xs=>(xs.length<=sizeLine/\∃ o,h.get? a=some o/\o.dict=none)/\∃ its:List Value,Vals xs its/\IsTup h a its.toArray
 | .dK kvs=>kvs.length<=sizeLine/\(a == sysModules)=false/\∃ vs,KV kvs vs/\h.DictOf (qS P w) a vs
 | .dT kvs=>kvs.length<=sizeLine/\(a == sysModules)=false/\∃ xs:List (List Key×Addr×Value),
   Paired (fun (p:List Key×V) (q:List Key×Addr×Value)=>p.1=q.1/\H q.2.1=some (.tup (p.1.map kV))/\RelV p.2 q.2.2) kvs xs /\
   ∃ o es ep,h.get? a=some o/\o.ExactDict/\o.data=.dict es ep/\es.toList=xs.map (entryOfKey (tupleKind (qS P w)))/\(xs.map (·.1)).Nodup
 | .set S n=>h.SetOf (intKind P w) a S n
 | .ins C dx fs=>H dx=some (.own a)/\fs.length<=1000/\dx≠a/\h.get? a=some (PySem.W.instObj C dx) /\
   ∃ mA,h.Ns1 dx mA/\(∀ f,RelO (fs.lookup f) (mA f))/\PySem.Within mA (fs.map (·.1))
 | .own _=>∃ o,h.get? a=some o
 | .xd fs=>∃ mA,h.Ns1 a mA/\∀ f,RelO (fs.lookup f) (mA f)
 | .rng lo hi=>∃ t u v,h.get? a=some { cls:=.type "range",data:=.fields #[.int lo t,.int hi u,.int 1 v] }
 | .frz o u=>h.get? a=some o/\ObjOk H h a u
 | .tbl ps=>h.get? a=some { cls:=.none,data:=.fields ps }
 | .met f x=>h.get? a=some (PySem.W.methodObj (.ref f) (.ref x))
 | .ext φ=>φ h/\(∃ o,h.get? a=some o)/\∀ h1 h2:Heap,φ h1->(∀ o,h1.get? a=some o->h2.get? a=some o)->φ h2
def HOk (H:Hp) (h:Heap):Prop:=∀ a o,H a=some o->ObjOk P w H h a o
end
section
variable {P:Program} {w:World} {H H':Hp} {h h':Heap} {a:Addr} {o:HO}
theorem ObjOk.lt (x:ObjOk P w H h a o):a < h.objs.size:=by
 cases o with
 | lst xs=>obtain ⟨_,_,_,_,e⟩:=x; exact Heap.lt_size e
 | tup xs=>obtain ⟨_,_,_,p⟩:=x; exact p.lt
 | dK kvs=>obtain ⟨_,_,_,_,o,_,_,e,_⟩:=x; exact Heap.lt_size e
 | dT kvs=>obtain ⟨_,_,_,_,o,_,_,e,_⟩:=x; exact Heap.lt_size e
 | set S n=>obtain ⟨o,_,_,_,e,_⟩:=x; exact Heap.lt_size e
 | ins C dx fs=>obtain ⟨_,_,_,e,_⟩:=x; exact Heap.lt_size e
 | own y=>obtain ⟨_,e⟩:=x; exact Heap.lt_size e
 | xd fs=>obtain ⟨_,⟨_,_,_,e,_⟩,_⟩:=x; exact Heap.lt_size e
 | rng lo hi=>obtain ⟨_,_,_,e⟩:=x; exact Heap.lt_size e
 | frz ob u=>obtain ⟨e,_⟩:=x; exact Heap.lt_size e
 | tbl ps=>exact Heap.lt_size (show h.get? a=some _ from x)
 | met f y=>exact Heap.lt_size (show h.get? a=some _ from x)
 | ext φ=>obtain ⟨_,⟨_,e⟩,_⟩:=x; exact Heap.lt_size e
theorem Paired.mapP {α β:Type} {F G:α->β->Prop}:∀ {l₁:List α} {l₂:List β},Paired F l₁ l₂->(∀ a b,F a b->G a b)->Paired G l₁ l₂
 | _,_,.nil,_=>.nil
 | _,_,.cons r t,f=>.cons (f _ _ r) (Paired.mapP t f)
theorem ObjOk.stay (x:ObjOk P w H h a o) (k:∀ b u,(b=a\/H b=some (.own a))->h.get? b=some u->h'.get? b=some u)
  (ho:∀ b,H b=some (.own a)->H' b=some (.own a)) (ht:∀ b xs,H b=some (.tup xs)->H' b=some (.tup xs)):ObjOk P w H' h' a o:=by
 induction o with
 | lst xs=>obtain ⟨z,its,n,r,e⟩:=x; exact ⟨z,its,n,r,k _ _ (.inl rfl) e⟩
 | tup xs=>obtain ⟨⟨z,o2,e2,d2⟩,its,r,ob,e,c⟩:=x; exact ⟨⟨z,o2,k _ _ (.inl rfl) e2,d2⟩,its,r,ob,k _ _ (.inl rfl) e,c⟩
 | dK kvs=>obtain ⟨z,y,vs,r,ob,es,ep,e,c⟩:=x; exact ⟨z,y,vs,r,ob,es,ep,k _ _ (.inl rfl) e,c⟩
 | dT kvs=>
  obtain ⟨z,y,xs,r,ob,es,ep,e,c⟩:=x
  exact ⟨z,y,xs,Paired.mapP r fun p q z=>⟨z.1,ht _ _ z.2.1,z.2.2⟩,ob,es,ep,k _ _ (.inl rfl) e,c⟩
 | set S n=>obtain ⟨ob,es,ep,t,e,c⟩:=x; exact ⟨ob,es,ep,t,k _ _ (.inl rfl) e,c⟩
 | ins C dx fs=>
  obtain ⟨d,z,ne,e,mA,⟨od,es,ep,e2,c⟩,r⟩:=x
  exact ⟨ho _ d,z,ne,k _ _ (.inl rfl) e,mA,⟨od,es,ep,k _ _ (.inr d) e2,c⟩,r⟩
 | own y=>obtain ⟨ob,e⟩:=x; exact ⟨ob,k _ _ (.inl rfl) e⟩
 | xd fs=>obtain ⟨mA,⟨od,es,ep,e,c⟩,r⟩:=x; exact ⟨mA,⟨od,es,ep,k _ _ (.inl rfl) e,c⟩,r⟩
 | rng lo hi=>obtain ⟨t,u,v,e⟩:=x; exact ⟨t,u,v,k _ _ (.inl rfl) e⟩
 | frz ob u ih=>obtain ⟨e,q⟩:=x; exact ⟨k _ _ (.inl rfl) e,ih q⟩
 | tbl ps=>
  have e:h.get? a=some { cls:=.none,data:=.fields ps }:=x
  show h'.get? a=some { cls:=.none,data:=.fields ps }
  exact k a _ (.inl rfl) e
 | met f y=>
  have e:h.get? a=some (PySem.W.methodObj (.ref f) (.ref y)):=x
  show h'.get? a=some (PySem.W.methodObj (.ref f) (.ref y))
  exact k a _ (.inl rfl) e
 | ext φ=>obtain ⟨p,⟨o,e⟩,st⟩:=x; exact ⟨st _ _ p fun o q=>k _ _ (.inl rfl) q,⟨o,k _ _ (.inl rfl) e⟩,st⟩
theorem HOk.lt (x:HOk P w H h) (e:H a=some o):a < h.objs.size:=(x a o e).lt
theorem HOk.fresh (x:HOk P w H h) (e:h.objs.size<=a):H a=none:=by
 cases q:H a with
 | none=>rfl
 | some u=>exact absurd (Nat.lt_of_lt_of_le (x.lt q) e) (Nat.lt_irrefl _)
theorem HOk.kept (x:HOk P w H h) (k:∀ b u,h.get? b=some u->h'.get? b=some u):HOk P w H h':=fun a o e=>
 (x a o e).stay (fun b u _ q=>k b u q) (fun _ q=>q) fun _ _ q=>q
theorem HOk.laid (x:HOk P w H h) (k:∀ b u,h.get? b=some u->h'.get? b=some u) (hp:h.objs.size<=a) (new:ObjOk P w (upd H a o) h' a o):HOk P w (upd H a o) h':=fun b u e=>by
 have hn:=x.fresh hp
 by_cases hb:b=a
 ·subst hb; rw [qo] at e; cases e; exact new
 ·rw [qA hb] at e
  exact (x b u e).stay (fun c v _ q=>k c v q) (fun c q=>by rw [qA (qE q hn)]; exact q) fun c xs q=>by rw [qA (qE q hn)]; exact q
end
def Rd (H:Hp) (a:Addr) (u:HO):Prop:=H a=some u\/∃ o,H a=some (.frz o u)
theorem Rd.ok {P:Program} {w:World} {H:Hp} {h:Heap} {a:Addr} {u:HO} (r:Rd H a u) (x:HOk P w H h):ObjOk P w H h a u:=by
 rcases r with r | ⟨o,r⟩
 ·exact x a u r
 ·obtain ⟨_,q⟩:=x a _ r
  exact q
def Mut:Option HO->Prop
 | some (.lst _)=>True
 | some (.dK _)=>True
 | some (.dT _)=>True
 | some (.set _ _)=>True
 | some (.ins _ _ _)=>True
 | some (.ext _)=>True
 | _=>False
section
variable {P:Program} {w:World} {H:Hp} {h h':Heap} {x e:Addr} {o':HO}
theorem HOk.write (ok:HOk P w H h) (mu:Mut (H x)) (he:e=x\/H e=some (.own x)) (k:∀ b u,b≠e->h.get? b=some u->h'.get? b=some u) (heo:∃ u,h'.get? e=some u)
  (new:ObjOk P w (upd H x o') h' x o'):HOk P w (upd H x o') h':=fun b u q=>by
 have nown:∀ c y,H c=some (.own y)->c≠x:=fun c y r z=>by subst z; rw [r] at mu; exact mu
 have ntup:∀ c xs,H c=some (.tup xs)->c≠x:=fun c xs r z=>by subst z; rw [r] at mu; exact mu
 by_cases hb:b=x
 ·subst hb; rw [qo] at q; cases q; exact new
 ·rw [qA hb] at q
  by_cases hbe:b=e
  ·have q':H b=some (.own x):=by
    rcases he with z | z
    ·exact absurd (hbe.trans z) hb
    ·rw [hbe]; exact z
   rw [q] at q'; cases q'
   obtain ⟨v,hv⟩:=heo
   exact ⟨v,by rw [hbe]; exact hv⟩
  ·refine (ok b u q).stay (fun c v hc r=>k c v ?_ r) (fun c r=>by rw [qA (nown c b r)]; exact r) fun c xs r=>by rw [qA (ntup c xs r)]; exact r
   rcases hc with rfl | hc
   ·exact hbe
   ·rintro rfl
    rcases he with z | z
    ·exact nown c b hc z
    ·rw [hc] at z; cases z; exact hb rfl
end
structure Un (fs ex:List Addr) (H H':Hp) (h h':Heap):Prop where
 keep:∀ b o,h.get? b=some o->H b=none->b∉fs->b∉ex->h'.get? b=some o
 slot:∀ b o,h.get? b=some o->H b=none->b∈fs->b∉ex->∃ sl,h'.get? b=some { o with slots:=sl }
 free:∀ b o,h.get? b=some o->H b=none->b∉ex->H' b=none
 there:∀ b o,h.get? b=some o->b∉ex->∃ o',h'.get? b=some o'
 tups:∀ b xs,H b=some (.tup xs)->H' b=some (.tup xs)
 frzs:∀ b o u,H b=some (.frz o u)->H' b=some (.frz o u)
 tbls:∀ b ps,H b=some (.tbl ps)->∃ more,H' b=some (.tbl (ps++more))
section
variable {fs fs' ex ex':List Addr} {H H1 H2:Hp} {h h1 h2 h':Heap} {a x e:Addr} {o:HO}
theorem Un.any (u:Un fs ex H H1 h h1) {b:Addr} {ob:Obj} (q:h.get? b=some ob) (n:H b=none) (hx:b∉ex):∃ sl,h1.get? b=some { ob with slots:=sl }:=by
 by_cases hb:b∈fs
 ·exact u.slot b ob q n hb hx
 ·exact ⟨ob.slots,u.keep b ob q n hb hx⟩
theorem Un.kept (k:∀ b u,h.get? b=some u->h'.get? b=some u):Un fs ex H H h h':=
 ⟨fun b ob q _ _ _=>k b ob q,fun b ob q _ _ _=>⟨ob.slots,k b ob q⟩,fun _ _ _ n _=>n,fun b ob q _=>⟨ob,k b ob q⟩,fun _ _ q=>q,fun _ _ _ q=>q,fun _ ps q=>⟨#[],by rw [q]; simp⟩⟩
theorem Un.refl:Un fs ex H H h h:=Un.kept fun _ _ q=>q
theorem Un.laid (k:∀ b u,h.get? b=some u->h'.get? b=some u) (hp:h.objs.size<=a) (hn:H a=none):Un fs ex H (upd H a o) h h' where
 keep:=fun b u q _ _ _=>k b u q
 slot:=fun b u q _ _ _=>⟨u.slots,k b u q⟩
 free:=fun b u q n _=>by rw [qA (Nat.ne_of_lt (Nat.lt_of_lt_of_le (Heap.lt_size q) hp))]; exact n
 there:=fun b u q _=>⟨u,k b u q⟩
 tups:=fun b xs q=>by rw [qA (qE q hn)]; exact q
 frzs:=fun b u xs q=>by rw [qA (qE q hn)]; exact q
 tbls:=fun b ps q=>⟨#[],by rw [qA (qE q hn),q]; simp⟩
theorem Un.write (mu:Mut (H x)) (he:e=x\/H e=some (.own x)) (k:∀ b u,b≠e->h.get? b=some u->h'.get? b=some u) (heo:∃ u,h'.get? e=some u):Un fs ex H (upd H x o) h h':=by
 have hx:∀ b,H b=none->b≠x:=fun b n z=>by subst z; rw [n] at mu; exact mu
 have hb:∀ b,H b=none->b≠e:=fun b n z=>by
  subst z
  rcases he with r | r
  ·exact hx b n r
  ·rw [n] at r; cases r
 have hm:∀ b u,H b=some u->¬Mut (some u)->b≠x:=fun b u q nm z=>by subst z; rw [q] at mu; exact nm mu
 refine ⟨fun b u q n _ _=>k b u (hb b n) q,fun b u q n _ _=>⟨u.slots,k b u (hb b n) q⟩,fun b u q n _=>by rw [qA (hx b n)]; exact n,fun b u q _=>?_,
  fun b xs q=>by rw [qA (hm b _ q fun z=>z)]; exact q,fun b u xs q=>by rw [qA (hm b _ q fun z=>z)]; exact q,fun b ps q=>⟨#[],by rw [qA (hm b _ q fun z=>z),q]; simp⟩⟩
 by_cases hbe:b=e
 ·subst hbe; exact heo
 ·exact ⟨u,k b u hbe q⟩
end
noncomputable def trk (h:Heap) (H:Hp):List Addr:=(List.range h.objs.size).filter fun a=>(H a).isSome
noncomputable def XI (h:Heap) (H:Hp):Heap:=PySem.W.hideAll h (trk h H)
theorem Uj (h:Heap) (H:Hp):(XI h H).objs.size=h.objs.size:=PySem.W.hideAll_size _ _
theorem XJ {h:Heap} {H:Hp} {b:Addr} {o:Obj} (e:h.get? b=some o) (n:H b=none):(XI h H).get? b=some o:=
 PySem.W.hideAll_get _ e fun hm=>by
  have q:(H b).isSome=true:=(List.mem_filter.mp hm).2
  rw [n] at q; simp at q
theorem qak {h:Heap} {H:Hp} {b:Addr} {o:Obj} (e:(XI h H).get? b=some o):h.get? b=some o/\H b=none:=by
 have e':h.get? b=some o:=PySem.W.of_hideAll (trk h H) e
 refine ⟨e',?_⟩
 cases q:H b with
 | none=>rfl
 | some x=>
  have hm:b∈trk h H:=List.mem_filter.mpr ⟨List.mem_range.mpr (Heap.lt_size e'),by simp [q]⟩
  have z:(XI h H).get? b=none:=PySem.W.hideAll_none (trk h H) hm
  rw [z] at e; cases e
noncomputable def qal (g h:Heap) (L:Addr):List (Addr×Obj):=(List.range h.objs.size).filterMap fun a=>if a=L\/(g.get? a).isSome=true then none else (h.get? a).map fun o=>(a,o)
noncomputable def rest (g h:Heap) (L d:Addr):List (Addr×Obj):=(qal g h L).filter fun p=>decide (p.1≠d)
structure Mod (K:Frag) (mg:Str->Option Value) (base:Heap):Prop where
 kin:K.In base
 glob:base.Ns mainGlobals mg
 blt:∃ mb,base.Ns builtinsNs mb/\∀ x:Str,x ≠ "__name__"->mb x=bootBuiltins x
 nolimit:base.NoLimit
structure Cx where
 prog:Program
 w:World
 K:Frag
 mg:Str->Option Value
 base:Heap
 A:Around
 N:List Str
 s₀:Shared
 H₀:Hp
 env:Env
 outer:List Env
 stack:List Env
 ex:List Addr
 fn:Str->Bool
 calm:Bool
 pn:List (Addr×Obj)
 xe:Value->Shared->Prop
noncomputable def frs (l:List Env):List Addr:=l.filterMap (·.frame)
abbrev Cx.fs (X:Cx):List Addr:=frs X.outer
def Vis (sc:Scope) (x:Str):Prop:=sc.names.lookup x=some .local\/sc.names.lookup x=some .cell\/sc.names.lookup x=some .free
def Loc (sc:Scope) (x:Str):Prop:=sc.names.lookup x=some .local\/sc.names.lookup x=some .cell
def zR (env:Env) (h:Heap) (m:Str->Option Value) (x:Str) (u:Value):Prop:=
 (env.kindOf x=some .local/\m x=some u)\/((env.kindOf x=some .cell\/env.kindOf x=some .free)/\∃ c,env.cells.lookup x=some c/\h.IsCell c (some u))
structure Cx.Ok (X:Cx):Prop where
 mod:Mod X.K X.mg X.base
 kind:X.env.scope.kind=.function
 glob:X.env.globals=mainGlobals
 blt:X.env.builtins=builtinsNs
 above:X.s₀.heap.objs.size<=X.env.locals
 inj:∀ x y c,X.env.cells.lookup x=some c->X.env.cells.lookup y=some c->x=y
 has:∀ x,(X.env.kindOf x=some .cell\/X.env.kindOf x=some .free)->∃ c,X.env.cells.lookup x=some c
 cab:∀ x c,X.fn x=true->X.env.cells.lookup x=some c->X.s₀.heap.objs.size<=c
 hd:X.calm=true->X.A.handled=none
 frames:X.A.frames=some X.stack
 stk:X.stack=X.outer\/(X.stack=X.env::X.outer/\X.env.frame=some X.env.locals)
 exf:∀ b∈X.ex,b≠X.env.locals/\∀ x c,X.env.cells.lookup x=some c->c≠b
 bs:∀ b o,X.base.get? b=some o->X.s₀.heap.get? b=some o/\X.H₀ b=none
 bsz:X.base.objs.size<=X.s₀.heap.objs.size
 noex:∀ b o,X.base.get? b=some o->b∉X.ex
 exfs:∀ b∈X.ex,b∉X.fs
 funs:X.s₀.heap.FunFrames X.base X.outer
 frf:∀ b∈X.fs,X.H₀ b=none
structure Inv (X:Cx) (pins:List (Addr×Obj)) (σ:List (Option V)) (H:Hp) (s:Shared):Prop where
 ok:X.Ok
 os:s.os=X.s₀.os
 bare:AllBare s.gens
 base:Un X.fs X.ex X.H₀ H X.s₀.heap s.heap
 loc:∃ m,s.heap.Ns X.env.locals m/\∀ (i:Nat) (x:Str) (v:V),X.N[i]?=some x->σ[i]?=some (some v)->Vis X.env.scope x->∃ u,RelV v u/\zR X.env s.heap m x u
 cell:∀ x c,X.env.cells.lookup x=some c->∃ v,s.heap.IsCell c v
 free:H X.env.locals=none
 freeC:∀ x c,X.env.cells.lookup x=some c->H c=none
 pin:∀ p∈X.pn++pins,s.heap.get? p.1=some p.2/\H p.1=none/\p.1≠X.env.locals/\p.1∉X.fs/\∀ v,p.2.data≠.cell v
 hok:HOk X.prog X.w H s.heap
 len:σ.length=X.N.length
section
variable {X:Cx} {pins:List (Addr×Obj)} {σ:List (Option V)} {H H':Hp} {s:Shared} {h':Heap}
theorem Cx.Ok.nofr (ok:X.Ok) {b:Addr} {o:Obj} (e:X.base.get? b=some o):b∉X.fs:=fun hb=>by
 have:=(ok.funs.mem hb).1
 rw [e] at this; cases this
theorem Inv.bs (I:Inv X pins σ H s):∀ b o,X.base.get? b=some o->s.heap.get? b=some o/\H b=none:=fun b o e=>
 ⟨I.base.keep b o (I.ok.bs b o e).1 (I.ok.bs b o e).2 (I.ok.nofr e) (I.ok.noex b o e),I.base.free b o (I.ok.bs b o e).1 (I.ok.bs b o e).2 (I.ok.noex b o e)⟩
theorem Inv.bk (I:Inv X pins σ H s):∀ b o,X.base.get? b=some o->s.heap.get? b=some o:=fun b o e=>(I.bs b o e).1
theorem Inv.mod (I:Inv X pins σ H s):Mod X.K X.mg X.base:=I.ok.mod
theorem Inv.kIn (I:Inv X pins σ H s):X.K.In s.heap:=I.ok.mod.kin.keeps I.bk
theorem Inv.nolimit (I:Inv X pins σ H s):s.heap.NoLimit:=I.ok.mod.nolimit.keeps I.bk
theorem Inv.fr (I:Inv X pins σ H s):∃ m,Fr X.base X.env.locals s.heap m:=
 let ⟨m,hn,_⟩:=I.loc
 ⟨m,hn,I.bk,Nat.le_trans I.ok.bsz I.ok.above⟩
theorem Inv.lt (I:Inv X pins σ H s):X.env.locals < s.heap.objs.size:=let ⟨_,hn,_⟩:=I.loc; hn.lt
theorem Inv.sz (I:Inv X pins σ H s):X.s₀.heap.objs.size<=s.heap.objs.size:=Nat.le_trans I.ok.above (Nat.le_of_lt I.lt)
theorem Inv.nofs (I:Inv X pins σ H s) {a:Addr} (h:s.heap.objs.size<=a):a∉X.fs:=fun hb=>by
 obtain ⟨_,o,ho,_⟩:=I.ok.funs.mem hb
 exact absurd (Nat.lt_of_lt_of_le (Heap.lt_size ho) (Nat.le_trans I.sz h)) (Nat.lt_irrefl _)
theorem Inv.cne (I:Inv X pins σ H s):∀ x c,X.env.cells.lookup x=some c->c≠X.env.locals:=fun x c e z=>by
 obtain ⟨v,o,ho,hd⟩:=I.cell x c e
 obtain ⟨m,⟨o',es,ep,ho',hd',_⟩,_⟩:=I.loc
 rw [z,ho'] at ho; cases ho; rw [hd'] at hd; cases hd
theorem Inv.funs (I:Inv X pins σ H s):s.heap.FunFrames X.base X.outer:=by
 have all:∀ (l:List Env),(∀ b∈frs l,b∈X.fs)->X.s₀.heap.FunFrames X.base l->s.heap.FunFrames X.base l:=by
  intro l
  induction l with
  | nil=>intro _ _; trivial
  | cons env r ih=>
   intro hs hl
   obtain ⟨hk,⟨L,o,hf,hn,ho,hd⟩,hr⟩:=hl
   have hL:L∈X.fs:=hs L (by unfold frs; rw [List.filterMap_cons,hf]; exact List.mem_cons_self)
   obtain ⟨sl,e⟩:=I.base.slot L o ho (I.ok.frf L hL) hL fun z=>I.ok.exfs L z hL
   exact ⟨hk,⟨L,_,hf,hn,e,hd⟩,ih (fun b hb=>hs b (by unfold frs; rw [List.filterMap_cons,hf]; exact List.mem_cons_of_mem _ hb)) hr⟩
 exact all X.outer (fun _ hb=>hb) I.ok.funs
theorem Inv.stack (I:Inv X pins σ H s):s.heap.FunFrames X.base X.stack:=by
 rcases I.ok.stk with e | ⟨e,hf⟩
 ·rw [e]; exact I.funs
 ·rw [e]
  obtain ⟨m,hn,_⟩:=I.loc
  refine .cons (by rw [I.ok.kind]; decide) hf hn ?_ I.funs
  exact Heap.get?_none_of_le (Nat.le_trans I.ok.bsz I.ok.above)
theorem Inv.stkSub (I:Inv X pins σ H s):∀ b∈frs X.stack,b∈X.env.locals::X.fs:=fun b hb=>by
 rcases I.ok.stk with e | ⟨e,hf⟩
 ·rw [e] at hb; exact List.mem_cons_of_mem _ hb
 ·rw [e] at hb
  unfold frs at hb
  rw [List.filterMap_cons,hf] at hb
  exact hb
theorem Inv.stkFree (I:Inv X pins σ H s):∀ b∈frs X.stack,H b=none:=fun b hb=>by
 rcases List.mem_cons.mp (I.stkSub b hb) with e | hb
 ·rw [e]; exact I.free
 ·obtain ⟨_,o,ho,_⟩:=I.ok.funs.mem hb
  exact I.base.free b o ho (I.ok.frf b hb) fun z=>I.ok.exfs b z hb
theorem Inv.step {g':Array GenState} {t':Nat} {d':Drawn} {ch:List Addr} (I:Inv X pins σ H s)
  (hch:∀ b∈ch,(b∈X.ex\/X.s₀.heap.objs.size<=b)/\b≠X.env.locals/\(∀ x c,X.env.cells.lookup x=some c->c≠b)/\∀ p∈X.pn++pins,p.1≠b)
  (keep:∀ b o,b≠X.env.locals->b∉X.fs->b∉ch->s.heap.get? b=some o->H b=none->h'.get? b=some o)
  (slot:∀ b o,b≠X.env.locals->b∈X.fs->b∉ch->s.heap.get? b=some o->H b=none->∃ sl,h'.get? b=some { o with slots:=sl }) (free:∀ b o,b∉ch->s.heap.get? b=some o->H b=none->H' b=none)
  (there:∀ b o,b∉ch->s.heap.get? b=some o->∃ o',h'.get? b=some o')
  (tups:∀ b xs,H b=some (.tup xs)->H' b=some (.tup xs)) (frzs:∀ b o u,H b=some (.frz o u)->H' b=some (.frz o u)) (tbls:∀ b ps,H b=some (.tbl ps)->∃ more,H' b=some (.tbl (ps++more)))
  (ns:∀ m,s.heap.Ns X.env.locals m->h'.Ns X.env.locals m) (hok:HOk X.prog X.w H' h') (hg:AllBare g') :
  Inv X pins σ H' { s with heap:=h',gens:=g',drawn:=d',toks:=t' }:=by
 have neL:∀ b o,X.s₀.heap.get? b=some o->b≠X.env.locals:=fun b o e=>Nat.ne_of_lt (Nat.lt_of_lt_of_le (Heap.lt_size e) I.ok.above)
 have neC:∀ b o,X.s₀.heap.get? b=some o->b∉X.ex->b∉ch:=fun b o e hx hb=>by
  rcases (hch b hb).1 with z | z
  ·exact hx z
  ·exact absurd (Nat.lt_of_lt_of_le (Heap.lt_size e) z) (Nat.lt_irrefl _)
 have cellK:∀ x c,X.env.cells.lookup x=some c->∀ v,s.heap.IsCell c v->h'.IsCell c v:=fun x c e v ⟨o,ho,hd⟩=>by
  have nch:c∉ch:=fun z=>(hch c z).2.2.1 x c e rfl
  by_cases hc:c∈X.fs
  ·obtain ⟨sl,q⟩:=slot c o (I.cne x c e) hc nch ho (I.freeC x c e)
   exact ⟨_,q,hd⟩
  ·exact ⟨o,keep c o (I.cne x c e) hc nch ho (I.freeC x c e),hd⟩
 refine ⟨I.ok,I.os,hg,⟨fun b o e n hb hx=>?_,fun b o e n hb hx=>?_,fun b o e n hx=>?_,fun b o e hx=>?_,fun b xs e=>tups b xs (I.base.tups b xs e),fun b o xs e=>frzs b o xs (I.base.frzs b o xs e),fun b ps e=>?_⟩,?_,fun x c e=>?_,?_,fun x c e=>?_,fun p hp=>?_,hok,I.len⟩
 ·exact keep b o (neL b o e) hb (neC b o e hx) (I.base.keep b o e n hb hx) (I.base.free b o e n hx)
 ·obtain ⟨sl,e1⟩:=I.base.slot b o e n hb hx
  obtain ⟨sl',e2⟩:=slot b _ (neL b o e) hb (neC b o e hx) e1 (I.base.free b o e n hx)
  exact ⟨sl',e2⟩
 ·obtain ⟨o',e1⟩:=I.base.there b o e hx
  exact free b o' (neC b o e hx) e1 (I.base.free b o e n hx)
 ·obtain ⟨o',e1⟩:=I.base.there b o e hx
  exact there b o' (neC b o e hx) e1
 ·obtain ⟨m1,e1⟩:=I.base.tbls b ps e
  obtain ⟨m2,e2⟩:=tbls b _ e1
  exact ⟨m1++m2,by rw [e2,Array.append_assoc]⟩
 ·obtain ⟨m,hn,hl⟩:=I.loc
  refine ⟨m,ns m hn,fun i x v e1 e2 e3=>?_⟩
  obtain ⟨u,r,l⟩:=hl i x v e1 e2 e3
  refine ⟨u,r,?_⟩
  rcases l with l | ⟨k,c,e,z⟩
  ·exact .inl l
  ·exact .inr ⟨k,c,e,cellK x c e _ z⟩
 ·obtain ⟨v,z⟩:=I.cell x c e
  exact ⟨v,cellK x c e v z⟩
 ·obtain ⟨m,⟨o,_,_,ho,_⟩,_⟩:=I.loc
  exact free _ o (fun z=>(hch _ z).2.1 rfl) ho I.free
 ·obtain ⟨v,o,ho,hd⟩:=I.cell x c e
  exact free c o (fun z=>(hch c z).2.2.1 x c e rfl) ho (I.freeC x c e)
 ·obtain ⟨e,n,ne,nf,d⟩:=I.pin p hp
  have nch:p.1∉ch:=fun z=>(hch p.1 z).2.2.2 p hp rfl
  exact ⟨keep p.1 p.2 ne nf nch e n,free p.1 p.2 nch e n,ne,nf,d⟩
theorem Inv.un {t':Nat} (I:Inv X pins σ H s) (u:Un X.fs [] H H' s.heap h') (hok:HOk X.prog X.w H' h'):Inv X pins σ H' { s with heap:=h',toks:=t' }:=by
 obtain ⟨m,⟨o,es,ep,ho,r⟩,_⟩:=id I.loc
 obtain ⟨sl,hL⟩:=u.any ho I.free (by simp)
 exact I.step (g':=s.gens) (d':=s.drawn) (ch:=[]) (fun _ z=>nomatch z) (fun b o _ hb _ e n=>u.keep b o e n hb (by simp)) (fun b o _ hb _ e n=>u.slot b o e n hb (by simp)) (fun b o _ e n=>u.free b o e n (by simp)) (fun b o _ e=>u.there b o e (by simp)) u.tups u.frzs u.tbls (fun m' hm=>by
  obtain ⟨o',es',ep',ho',r'⟩:=hm
  rw [ho] at ho'; cases ho'
  exact ⟨_,es',ep',hL,r'⟩) hok I.bare
theorem Inv.call {g':Array GenState} {t':Nat} {d':Drawn} {ch:List Addr} (I:Inv X pins σ H s) (u:Un (frs X.stack) ch H H' s.heap h') (hok:HOk X.prog X.w H' h') (hg:AllBare g')
  (hch:∀ b∈ch,(b∈X.ex\/X.s₀.heap.objs.size<=b)/\b≠X.env.locals/\(∀ x c,X.env.cells.lookup x=some c->c≠b)/\∀ p∈X.pn++pins,p.1≠b) :
  Inv X pins σ H' { s with heap:=h',gens:=g',drawn:=d',toks:=t' }:=by
 obtain ⟨m,⟨o,es,ep,ho,r⟩,_⟩:=id I.loc
 obtain ⟨sl,hL⟩:=u.any ho I.free fun z=>(hch _ z).2.1 rfl
 exact I.step (ch:=ch) hch (fun b o hL hb hc e n=>u.keep b o e n (fun z=>(List.mem_cons.mp (I.stkSub b z)).elim hL hb) hc) (fun b o _ _ hc e n=>u.any e n hc) (fun b o hc e n=>u.free b o e n hc) (fun b o hc e=>u.there b o e hc) u.tups u.frzs u.tbls (fun m' hm=>by
  obtain ⟨o',es',ep',ho',r'⟩:=hm
  rw [ho] at ho'; cases ho'
  exact ⟨_,es',ep',hL,r'⟩) hok hg
theorem Inv.turned {t':Nat} {it:Addr} (I:Inv X pins σ H s) (k:∀ b o,b≠it->s.heap.get? b=some o->h'.get? b=some o) (hn:H it=none) (hL:it≠X.env.locals)
  (h1:it∈X.ex\/X.s₀.heap.objs.size<=it) (h2:∀ x c,X.env.cells.lookup x=some c->c≠it) (h3:∀ p∈X.pn++pins,p.1≠it):Inv X pins σ H { s with heap:=h',toks:=t' }:=by
 have nit:∀ b u,H b=some u->b≠it:=fun b u e z=>by rw [z,hn] at e; cases e
 refine I.step (g':=s.gens) (d':=s.drawn) (ch:=[it]) (fun b hb=>?_) (fun b o _ _ hc e _=>k b o (fun z=>hc (by simp [z])) e) (fun b o _ _ hc e _=>⟨o.slots,k b o (fun z=>hc (by simp [z])) e⟩) (fun _ _ _ _ n=>n)
  (fun b o hc e=>⟨o,k b o (fun z=>hc (by simp [z])) e⟩) (fun _ _ e=>e) (fun _ _ _ e=>e) (fun b ps e=>⟨#[],by rw [e]; simp⟩) (fun m hm=>?_) (fun b u e=>?_) I.bare
 ·have e:b=it:=by simpa using hb
  subst e
  exact ⟨h1,hL,h2,h3⟩
 ·obtain ⟨o,es,ep,ho,r⟩:=hm
  exact ⟨o,es,ep,k _ o (Ne.symm hL) ho,r⟩
 ·refine (I.hok b u e).stay (fun c v hc q=>k c v ?_ q) (fun _ q=>q) fun _ _ q=>q
  rcases hc with z | z
  ·rw [z]; exact nit b u e
  ·exact nit c _ z
theorem Inv.tok (I:Inv X pins σ H s) (t:Nat):Inv X pins σ H { s with toks:=t }:=I.un (h':=s.heap) (t':=t) Un.refl I.hok
theorem Inv.kept {t':Nat} (I:Inv X pins σ H s) (k:∀ b u,s.heap.get? b=some u->h'.get? b=some u):Inv X pins σ H { s with heap:=h',toks:=t' }:=I.un (Un.kept k) (I.hok.kept k)
theorem Inv.laid {a:Addr} {o:HO} {t':Nat} (I:Inv X pins σ H s) (k:∀ b u,s.heap.get? b=some u->h'.get? b=some u) (hp:s.heap.objs.size<=a) (new:ObjOk X.prog X.w (upd H a o) h' a o) :
  Inv X pins σ (upd H a o) { s with heap:=h',toks:=t' }:=I.un (Un.laid k hp (I.hok.fresh hp)) (I.hok.laid k hp new)
theorem Inv.write {x e:Addr} {o:HO} {t':Nat} (I:Inv X pins σ H s) (mu:Mut (H x)) (he:e=x\/H e=some (.own x)) (k:∀ b u,b≠e->s.heap.get? b=some u->h'.get? b=some u) (heo:∃ u,h'.get? e=some u)
  (new:ObjOk X.prog X.w (upd H x o) h' x o):Inv X pins σ (upd H x o) { s with heap:=h',toks:=t' }:=I.un (Un.write mu he k heo) (I.hok.write mu he k heo new)
theorem Inv.pins_of {pins':List (Addr×Obj)} (I:Inv X pins σ H s) (h:∀ p∈pins',s.heap.get? p.1=some p.2/\H p.1=none/\p.1≠X.env.locals/\p.1∉X.fs/\∀ v,p.2.data≠.cell v):Inv X pins' σ H s:=
 ⟨I.ok,I.os,I.bare,I.base,I.loc,I.cell,I.free,I.freeC,fun p hp=>(List.mem_append.mp hp).elim (fun z=>I.pin p (List.mem_append_left _ z)) (h p),I.hok,I.len⟩
theorem Vg {N:List Str} (hN:N.Nodup) {i j:Nat} {x:Str} (a:N[i]?=some x) (b:N[j]?=some x):i=j:=by
 obtain ⟨h1,e1⟩:=List.getElem?_eq_some_iff.mp a
 obtain ⟨h2,e2⟩:=List.getElem?_eq_some_iff.mp b
 exact (List.getElem_inj hN).mp (e1.trans e2.symm)
theorem QE {M:Model} {A:Around} {E:Value->Shared->Prop} {i:Nat} {x:Str} {v:V} {u:Value} {Q:Unit->Shared->Prop} (I:Inv X pins σ H s) (hN:X.N.Nodup) (hi:X.N[i]?=some x) (hx:Loc X.env.scope x) (r:RelV v u)
  (h:∀ s',Inv X pins (σ.set i (some v)) H s'->(∃ a,Heap.SameBut a s.heap s'.heap/\(a=X.env.locals\/X.env.cells.lookup x=some a))->Q () s') (hf:X.fn x=true\/X.env.scope.names.lookup x=some .local:=by first | exact .inl rfl | exact .inr rfl | assumption):wpAny M A (storeName X.env x u) Q E s:=by
 obtain ⟨m,hn,hl⟩:=id I.loc
 have hcls:(X.env.scope.kind == .class||(X.env.scope.kind == .module&&X.env.locals != X.env.globals))=false:=by rw [I.ok.kind]; rfl
 have hiσ:i < σ.length:=by rw [I.len]; exact (List.getElem?_eq_some_iff.mp hi).1
 have cne:=I.cne
 have tracked:∀ {a:Addr} {h':Heap},(∃ o,s.heap.get? a=some o/\H a=none)->Heap.SameBut a s.heap h'->HOk X.prog X.w H h':=fun {a h'} ha hs b ob e=>by
  obtain ⟨_,_,hfree⟩:=ha
  refine (I.hok b ob e).stay (fun c w' hc q=>(hs.2 c ?_).trans q) (fun _ q=>q) fun _ _ q=>q
  rintro rfl
  rcases hc with rfl | hc
  ·rw [hfree] at e; cases e
  ·rw [hfree] at hc; cases hc
 rcases hx with hk | hk
 ·refine wpAny_storeName_local hk hn (fun h' hn' hs=>?_) hcls
  obtain ⟨oL,_,_,hoL,_⟩:=id hn
  refine h _ ⟨I.ok,I.os,I.bare,⟨fun b o e n hb hx=>?_,fun b o e n hb hx=>?_,I.base.free,fun b o e hx=>?_,I.base.tups,I.base.frzs,I.base.tbls⟩,⟨_,hn',fun j y v' e1 e2 e3=>?_⟩,fun y c e=>?_,I.free,I.freeC,fun p hp=>?_,tracked ⟨oL,hoL,I.free⟩ hs,by simpa using I.len⟩ ⟨_,hs,.inl rfl⟩
  ·exact (hs.2 b (Nat.ne_of_lt (Nat.lt_of_lt_of_le (Heap.lt_size e) I.ok.above))).trans (I.base.keep b o e n hb hx)
  ·obtain ⟨sl,e1⟩:=I.base.slot b o e n hb hx
   exact ⟨sl,(hs.2 b (Nat.ne_of_lt (Nat.lt_of_lt_of_le (Heap.lt_size e) I.ok.above))).trans e1⟩
  ·obtain ⟨o',e1⟩:=I.base.there b o e hx
   exact ⟨o',(hs.2 b (Nat.ne_of_lt (Nat.lt_of_lt_of_le (Heap.lt_size e) I.ok.above))).trans e1⟩
  ·by_cases hj:j=i
   ·subst hj
    rw [hi] at e1; cases e1
    rw [List.getElem?_set_self hiσ] at e2
    cases e2
    exact ⟨u,r,.inl ⟨hk,by simp⟩⟩
   ·rw [List.getElem?_set_ne (Ne.symm hj)] at e2
    obtain ⟨u',r',q⟩:=hl j y v' e1 e2 e3
    refine ⟨u',r',?_⟩
    rcases q with ⟨k,e⟩ | ⟨k,c,e,z⟩
    ·refine .inl ⟨k,?_⟩
     have:y≠x:=fun e=>hj (Vg hN e1 (e ▸ hi))
     simp [this,e]
    ·exact .inr ⟨k,c,e,z.sameBut hs (cne y c e)⟩
  ·obtain ⟨w',z⟩:=I.cell y c e
   exact ⟨w',z.sameBut hs (cne y c e)⟩
  ·obtain ⟨e,n,ne,nf,d⟩:=I.pin p hp
   exact ⟨(hs.2 p.1 ne).trans e,n,ne,nf,d⟩
 ·have hfn:X.fn x=true:=by
   rcases hf with z | z
   ·exact z
   ·rw [z] at hk; cases hk
  obtain ⟨c,hc⟩:=I.ok.has x (.inl hk)
  obtain ⟨w',z⟩:=I.cell x c hc
  refine wpAny_storeName_cell I.ok.kind hk hc z (fun h' hc' hs=>?_)
  obtain ⟨oc,hoc,hocd⟩:=id z
  refine h { s with heap:=h' } ⟨I.ok,I.os,I.bare,⟨fun b o e n hb hx=>?_,fun b o e n hb hx=>?_,I.base.free,fun b o e hx=>?_,I.base.tups,I.base.frzs,I.base.tbls⟩,⟨m,hn.sameBut hs (Ne.symm (cne x c hc)),fun j y v' e1 e2 e3=>?_⟩,fun y c' e=>?_,I.free,I.freeC,fun p hp=>?_,tracked ⟨oc,hoc,I.freeC x c hc⟩ hs,by simpa using I.len⟩ ⟨c,hs,.inr hc⟩
  ·exact (hs.2 b (Nat.ne_of_lt (Nat.lt_of_lt_of_le (Heap.lt_size e) (I.ok.cab x c hfn hc)))).trans (I.base.keep b o e n hb hx)
  ·obtain ⟨sl,e1⟩:=I.base.slot b o e n hb hx
   exact ⟨sl,(hs.2 b (Nat.ne_of_lt (Nat.lt_of_lt_of_le (Heap.lt_size e) (I.ok.cab x c hfn hc)))).trans e1⟩
  ·obtain ⟨o',e1⟩:=I.base.there b o e hx
   exact ⟨o',(hs.2 b (Nat.ne_of_lt (Nat.lt_of_lt_of_le (Heap.lt_size e) (I.ok.cab x c hfn hc)))).trans e1⟩
  ·by_cases hj:j=i
   ·subst hj
    rw [hi] at e1; cases e1
    rw [List.getElem?_set_self hiσ] at e2
    cases e2
    exact ⟨u,r,.inr ⟨.inl hk,c,hc,hc'⟩⟩
   ·rw [List.getElem?_set_ne (Ne.symm hj)] at e2
    obtain ⟨u',r',q⟩:=hl j y v' e1 e2 e3
    refine ⟨u',r',?_⟩
    rcases q with q | ⟨k,c',e,z'⟩
    ·exact .inl q
    ·refine .inr ⟨k,c',e,z'.sameBut hs ?_⟩
     rintro rfl
     exact hj (Vg hN e1 (I.ok.inj _ _ _ e hc ▸ hi))
  ·by_cases hcc:c'=c
   ·subst hcc; exact ⟨_,hc'⟩
   ·obtain ⟨w2,z2⟩:=I.cell y c' e
    exact ⟨w2,z2.sameBut hs hcc⟩
  ·obtain ⟨e,n,ne,nf,d⟩:=I.pin p hp
   refine ⟨(hs.2 p.1 ?_).trans e,n,ne,nf,d⟩
   intro q
   rw [q,hoc] at e
   have q':oc=p.2:=Option.some.inj e
   exact d w' (by rw [<-q']; exact hocd)
theorem Vh {M:Model} {A:Around} {E:Value->Shared->Prop} {i:Nat} {x:Str} {v:V} {u:Value} {Q:Unit->Shared->Prop} (I:Inv X pins σ H s) (hN:X.N.Nodup) (hi:X.N[i]?=some x) (hx:Loc X.env.scope x) (r:RelV v u)
  (h:∀ s',Inv X pins (σ.set i (some v)) H s'->Q () s') (hf:X.fn x=true\/X.env.scope.names.lookup x=some .local:=by first | exact .inl rfl | exact .inr rfl | assumption):wpAny M A (storeName X.env x u) Q E s:=
 QE I hN hi hx r (fun s' I' _=>h s' I') hf
theorem Inv.call' {s':Shared} {ch:List Addr} (I:Inv X pins σ H s) (ho:s'.os=s.os) (u:Un (frs X.stack) ch H H' s.heap s'.heap) (hok:HOk X.prog X.w H' s'.heap) (hg:AllBare s'.gens)
  (hch:∀ b∈ch,(b∈X.ex\/X.s₀.heap.objs.size<=b)/\b≠X.env.locals/\(∀ x c,X.env.cells.lookup x=some c->c≠b)/\∀ p∈X.pn++pins,p.1≠b):Inv X pins σ H' s':=by
 obtain ⟨h',g',d',t',o'⟩:=s'
 have e:o'=s.os:=ho
 subst e
 exact I.call (g':=g') (t':=t') (d':=d') u hok hg hch
end
abbrev XK:=Value->Option Addr->Hp->Prop
abbrev St:=List (Option V)
abbrev VK:=V->Hp->Prop
abbrev TE:=St->Hp->VK->Prop
abbrev TT:=St->Hp->(Bool->Hp->Prop)->Prop
abbrev TA:=St->Hp->(List V->Hp->Prop)->Prop
structure Ends where
 nx:St->Hp->Prop
 rt:VK
 bk:St->Hp->Prop:=fun _ _=>False
 ct:St->Hp->Prop:=fun _ _=>False
abbrev TS:=Ends->St->Hp->Prop
def EP (X:Cx) (pins:List (Addr×Obj)) (σ:St) (Q:VK) (u:Value) (s':Shared):Prop:=∃ v H',Inv X pins σ H' s'/\RelV v u/\Q v H'
def TP (X:Cx) (pins:List (Addr×Obj)) (σ:St) (Q:Bool->Hp->Prop) (b:Bool) (s':Shared):Prop:=∃ H',Inv X pins σ H' s'/\Q b H'
def AP (X:Cx) (pins:List (Addr×Obj)) (σ:St) (Q:List V->Hp->Prop) (us:List Value) (s':Shared):Prop:=∃ vs H',Inv X pins σ H' s'/\Vals vs us/\Q vs H'
def SP (X:Cx) (pins:List (Addr×Obj)) (D:Ends) (f:Flow) (s':Shared):Prop:=
 match f with
 | .next=>∃ σ' H',Inv X pins σ' H' s'/\D.nx σ' H'
 | .brk=>∃ σ' H',Inv X pins σ' H' s'/\D.bk σ' H'
 | .cont=>∃ σ' H',Inv X pins σ' H' s'/\D.ct σ' H'
 | .ret u=>∃ v σ' H',Inv X pins σ' H' s'/\RelV v u/\D.rt v H'
structure PE (X:Cx) (e:Expr) (t:TE):Prop where
 run:∀ (pins:List (Addr×Obj)) (s:Shared) (σ:St) (H:Hp) (Q:VK),Inv X pins σ H s->t σ H Q->wpAny (model X.prog X.w) X.A (eval e X.env) (EP X pins σ Q) X.xe s
instance {X:Cx} {e:Expr} {t:TE}:CoeFun (PE X e t) (fun _=>∀ (pins:List (Addr×Obj)) (s:Shared) (σ:St) (H:Hp) (Q:VK),Inv X pins σ H s->t σ H Q->wpAny (model X.prog X.w) X.A (eval e X.env) (EP X pins σ Q) X.xe s):=⟨fun h=>h.run⟩
structure PT (X:Cx) (e:Expr) (t:TT):Prop where
 run:∀ (pins:List (Addr×Obj)) (s:Shared) (σ:St) (H:Hp) (Q:Bool->Hp->Prop),Inv X pins σ H s->t σ H Q->wpAny (model X.prog X.w) X.A (isTrue e X.env (eval e X.env)) (TP X pins σ Q) X.xe s
instance {X:Cx} {e:Expr} {t:TT}:CoeFun (PT X e t) (fun _=>∀ (pins:List (Addr×Obj)) (s:Shared) (σ:St) (H:Hp) (Q:Bool->Hp->Prop),Inv X pins σ H s->t σ H Q->wpAny (model X.prog X.w) X.A (isTrue e X.env (eval e X.env)) (TP X pins σ Q) X.xe s):=⟨fun h=>h.run⟩
structure PW (X:Cx) (e:Expr) (t:TT):Prop where
 run:∀ (whole:Sem Value) (pins:List (Addr×Obj)) (s:Shared) (σ:St) (H:Hp) (Q:Bool->Hp->Prop),Inv X pins σ H s->t σ H Q->wpAny (model X.prog X.w) X.A (isTrue e X.env whole) (TP X pins σ Q) X.xe s
instance {X:Cx} {e:Expr} {t:TT}:CoeFun (PW X e t) (fun _=>∀ (whole:Sem Value) (pins:List (Addr×Obj)) (s:Shared) (σ:St) (H:Hp) (Q:Bool->Hp->Prop),Inv X pins σ H s->t σ H Q->wpAny (model X.prog X.w) X.A (isTrue e X.env whole) (TP X pins σ Q) X.xe s):=⟨fun h=>h.run⟩
theorem PW.pt {X:Cx} {e:Expr} {t:TT} (h:PW X e t):PT X e t:=⟨h.run _⟩
structure PA (X:Cx) (es:List Expr) (t:TA):Prop where
 run:∀ (pos:Pos) (pins:List (Addr×Obj)) (s:Shared) (σ:St) (H:Hp) (Q:List V->Hp->Prop),Inv X pins σ H s->t σ H Q->wpAny (model X.prog X.w) X.A (spliced (backTo pos (starEach es X.env))) (AP X pins σ Q) X.xe s
instance {X:Cx} {es:List Expr} {t:TA}:CoeFun (PA X es t) (fun _=>∀ (pos:Pos) (pins:List (Addr×Obj)) (s:Shared) (σ:St) (H:Hp) (Q:List V->Hp->Prop),Inv X pins σ H s->t σ H Q->wpAny (model X.prog X.w) X.A (spliced (backTo pos (starEach es X.env))) (AP X pins σ Q) X.xe s):=⟨fun h=>h.run⟩
structure PS (X:Cx) (st:Stmt) (t:TS):Prop where
 run:∀ (pins:List (Addr×Obj)) (s:Shared) (σ:St) (H:Hp) (D:Ends),Inv X pins σ H s->t D σ H->wpAny (model X.prog X.w) X.A (exec st X.env) (SP X pins D) X.xe s
instance {X:Cx} {st:Stmt} {t:TS}:CoeFun (PS X st t) (fun _=>∀ (pins:List (Addr×Obj)) (s:Shared) (σ:St) (H:Hp) (D:Ends),Inv X pins σ H s->t D σ H->wpAny (model X.prog X.w) X.A (exec st X.env) (SP X pins D) X.xe s):=⟨fun h=>h.run⟩
structure PSs (X:Cx) (st:List Stmt) (t:TS):Prop where
 run:∀ (pins:List (Addr×Obj)) (s:Shared) (σ:St) (H:Hp) (D:Ends),Inv X pins σ H s->t D σ H->wpAny (model X.prog X.w) X.A (execs st X.env) (SP X pins D) X.xe s
instance {X:Cx} {st:List Stmt} {t:TS}:CoeFun (PSs X st t) (fun _=>∀ (pins:List (Addr×Obj)) (s:Shared) (σ:St) (H:Hp) (D:Ends),Inv X pins σ H s->t D σ H->wpAny (model X.prog X.w) X.A (execs st X.env) (SP X pins D) X.xe s):=⟨fun h=>h.run⟩
theorem thn {α:Type} {t:Sem α} {Q Q':α->Shared->Prop} {M:Model} {A:Around} {E:Value->Shared->Prop} {s:Shared} (h:wpAny M A t Q E s) (hQ:∀ a s,Q a s->Q' a s):wpAny M A t Q' E s:=wpAny_mono h hQ fun _ _ x=>x
section
variable {X:Cx}
def qd4 (i:Nat):TE:=fun σ H Q=>∃ v,σ[i]?=some (some v)/\Q v H
def tC (v:V):TE:=fun _ H Q=>Q v H
theorem wa {i:Nat} {x:Str} {pos:Pos} (hN:X.N[i]?=some x) (hv:Vis X.env.scope x) (hd:(x == ("__debug__":Str))=false:=by decide) (hcd:(x == ("__classdict__":Str))=false:=by decide):PE X (.Name x pos) (qd4 i):=by
 refine ⟨?_⟩
 intro pins s σ H Q I h
 obtain ⟨v,e,h⟩:=h
 obtain ⟨m,hn,hl⟩:=I.loc
 obtain ⟨u,r,l⟩:=hl i x v hN e hv
 have fin:EP X pins σ Q u s:=⟨v,H,I,r,h⟩
 rcases l with ⟨hk,hm⟩ | ⟨hk,c,hc,hcell⟩
 ·exact wpAny_Name (wpAny_loadName_local I.ok.kind hk hn hm fin) hd
 ·rcases hk with hk | hk
  ·exact wpAny_Name (wpAny_loadName_cell I.ok.kind hk hc hcell fin) hd
  ·exact wpAny_Name (wpAny_loadName_free I.ok.kind hk hc hcell fin hcd) hd
theorem GG {i j pos}:PE X (.Constant (.int i) j pos) (tC (.int i)):=⟨fun _ _ _ H _ I h=>wpAny_Constant_int ⟨.int i,H,I.tok _,⟨_,rfl⟩,h⟩⟩
theorem qd5 {b j pos}:PE X (.Constant (.bool b) j pos) (tC (.bl b)):=⟨fun _ _ _ H _ I h=>Constant_bool ⟨.bl b,H,I,rfl,h⟩⟩
theorem qb4 {j pos}:PE X (.Constant .none j pos) (tC .non):=⟨fun _ _ _ H _ I h=>Constant_none ⟨.non,H,I,rfl,h⟩⟩
theorem GH {x j pos}:PE X (.Constant (.str x) j pos) (tC (.str x)):=⟨fun _ _ _ H _ I h=>Calls.Constant_str ⟨.str x,H,I.tok _,⟨_,rfl⟩,h⟩⟩
def Gl (X:Cx) (x:Str):Prop:=X.env.kindOf x=some .globalImplicit
theorem JT {E:Value->Shared->Prop} {pins:List (Addr×Obj)} {s:Shared} {σ:St} {H:Hp} {x:Str} {u:Value} {pos:Pos} {Q:Value->Shared->Prop} (I:Inv X pins σ H s) (hg:Gl X x) (hm:X.mg x=some u) (h:Q u s)
  (hd:(x == ("__debug__":Str))=false:=by decide):wpAny (model X.prog X.w) X.A (eval (.Name x pos) X.env) Q E s:=
 Calls.Name_function_global I.ok.kind hg (Calls.loadGlobal_global (by rw [I.ok.glob]; exact I.mod.glob.keeps I.bk) hm h) hd
theorem xx {E:Value->Shared->Prop} {pins:List (Addr×Obj)} {s:Shared} {σ:St} {H:Hp} {x:Str} {u:Value} {pos:Pos} {Q:Value->Shared->Prop} (I:Inv X pins σ H s) (hg:Gl X x) (hm:X.mg x=none) (hv:bootBuiltins x=some u) (h:Q u s)
  (hn:x ≠ "__name__":=by decide) (hd:(x == ("__debug__":Str))=false:=by decide):wpAny (model X.prog X.w) X.A (eval (.Name x pos) X.env) Q E s:=by
 obtain ⟨mb,h1,h2⟩:=I.mod.blt
 exact Calls.Name_function_global I.ok.kind hg (Calls.loadGlobal_builtin (by rw [I.ok.glob]; exact I.mod.glob.keeps I.bk) hm (by rw [I.ok.blt]; exact h1.keeps I.bk) ((h2 x hn).trans hv) h) hd
theorem qam {x:Str} {v:V} {u:Value} {pos:Pos} (hg:Gl X x) (hm:X.mg x=some u) (r:RelV v u) (hd:(x == ("__debug__":Str))=false:=by decide):PE X (.Name x pos) (tC v):=⟨fun _ _ _ H _ I h=>JT I hg hm ⟨v,H,I,r,h⟩ hd⟩
theorem qan {x:Str} {v:V} {u:Value} {pos:Pos} (hg:Gl X x) (hm:X.mg x=none) (hv:bootBuiltins x=some u) (r:RelV v u) (hn:x ≠ "__name__":=by decide) (hd:(x == ("__debug__":Str))=false:=by decide):PE X (.Name x pos) (tC v):=⟨fun _ _ _ H _ I h=>xx I hg hm hv ⟨v,H,I,r,h⟩ hn hd⟩
variable {a b:Expr} {ta tb:TE} {pos:Pos}
variable {tA tB':TT} {rest:List Expr}
def qfw (t u:TT):TT:=fun σ H Q=>t σ H fun c H1=>if c=true then u σ H1 Q else Q false H1
def tOr (t u:TT):TT:=fun σ H Q=>t σ H fun c H1=>if c=true then Q true H1 else u σ H1 Q
def qfx (t:TT):TT:=fun σ H Q=>t σ H fun c H1=>Q (!c) H1
theorem qao (ha:PT X a tA):PW X (.BoolOp .And [a] pos) tA:=by
 refine ⟨?_⟩
 intro wh pins s σ H Q I h
 refine isTrue_and (thn (ha pins s σ H Q I h) fun c s1 e=>?_)
 cases c with
 | true=>exact isTrue_and_nil e
 | false=>exact e
theorem qb5 (ha:PT X a tA):PW X (.BoolOp .Or [a] pos) tA:=by
 refine ⟨?_⟩
 intro wh pins s σ H Q I h
 refine isTrue_or (thn (ha pins s σ H Q I h) fun c s1 e=>?_)
 cases c with
 | false=>exact isTrue_or_nil e
 | true=>exact e
theorem qb6 (ha:PT X a tA) (hb:PW X (.BoolOp .And (b::rest) pos) tB'):PW X (.BoolOp .And (a::b::rest) pos) (qfw tA tB'):=by
 refine ⟨?_⟩
 intro wh pins s σ H Q I h
 refine isTrue_and (thn (ha pins s σ H _ I h) fun c s1 ⟨H1,I1,q1⟩=>?_)
 cases c with
 | true=>exact hb wh pins s1 σ H1 Q I1 q1
 | false=>exact ⟨H1,I1,q1⟩
theorem qd6 (ha:PT X a tA) (hb:PW X (.BoolOp .Or (b::rest) pos) tB'):PW X (.BoolOp .Or (a::b::rest) pos) (tOr tA tB'):=by
 refine ⟨?_⟩
 intro wh pins s σ H Q I h
 refine isTrue_or (thn (ha pins s σ H _ I h) fun c s1 ⟨H1,I1,q1⟩=>?_)
 cases c with
 | true=>exact ⟨H1,I1,q1⟩
 | false=>exact hb wh pins s1 σ H1 Q I1 q1
theorem qb7 (ha:PT X a tA):PT X (.UnaryOp .Not a pos) (qfx tA):=by
 refine ⟨?_⟩
 intro pins s σ H Q I h
 exact isTrue_not (ha pins s σ H (fun c H1=>Q (!c) H1) I h)
def qd7 (ta tb:TE):TE:=fun σ H Q=>ta σ H fun x H1=>∃ c,x=.bl c/\if c=true then tb σ H1 Q else Q (.bl false) H1
def qfy (ta tb:TE):TE:=fun σ H Q=>ta σ H fun x H1=>∃ c,x=.bl c/\if c=true then Q (.bl true) H1 else tb σ H1 Q
theorem qb8 {op} {t:TE} (h:PE X a t):PE X (.BoolOp op [a] pos) t:=⟨fun pins s σ H Q I hw=>BoolOp_one (h pins s σ H Q I hw)⟩
theorem qb9 (ha:PE X a ta) (hb:PE X (.BoolOp .And (b::rest) pos) tb):PE X (.BoolOp .And (a::b::rest) pos) (qd7 ta tb):=by
 refine ⟨?_⟩
 intro pins s σ H Q I h
 refine BoolOp_and (thn (ha pins s σ H _ I h) fun v s1 ⟨x,H1,I1,r1,q1⟩=>?_)
 obtain ⟨c,rfl,q1⟩:=q1
 cases r1
 refine wpAny_truthy_bool ?_
 cases c with
 | true=>exact hb pins s1 σ H1 Q I1 q1
 | false=>exact ⟨.bl false,H1,I1,rfl,q1⟩
theorem qd8 (ha:PE X a ta) (hb:PE X (.BoolOp .Or (b::rest) pos) tb):PE X (.BoolOp .Or (a::b::rest) pos) (qfy ta tb):=by
 refine ⟨?_⟩
 intro pins s σ H Q I h
 refine BoolOp_or (thn (ha pins s σ H _ I h) fun v s1 ⟨x,H1,I1,r1,q1⟩=>?_)
 obtain ⟨c,rfl,q1⟩:=q1
 cases r1
 refine wpAny_truthy_bool ?_
 cases c with
 | false=>exact hb pins s1 σ H1 Q I1 q1
 | true=>exact ⟨.bl true,H1,I1,rfl,q1⟩
def tIf (t:TT) (ta tb:TE):TE:=fun σ H Q=>t σ H fun c H1=>if c=true then ta σ H1 Q else tb σ H1 Q
theorem XM {c:Expr} (hc:PT X c tA) (ha:PE X a ta) (hb:PE X b tb):PE X (.IfExp c a b pos) (tIf tA ta tb):=by
 refine ⟨?_⟩
 intro pins s σ H Q I h
 refine wpAny_IfExp (thn (hc pins s σ H _ I h) fun d s1 ⟨H1,I1,q1⟩=>?_)
 cases d with
 | true=>exact ha pins s1 σ H1 Q I1 q1
 | false=>exact hb pins s1 σ H1 Q I1 q1
end
def SqL (K:Frag) (H:Hp) (a:Addr) (xs:List V):Prop:=
 Rd H a (.lst xs) \/
  ∃ (o:Obj) (its:Array Value) (n:Nat),K.lookup a=some o/\o.cls=.type "list"/\o.dict=none/\o.data=.seq its n/\its.size<=sizeLine/\Vals xs its.toList
def SqT (K:Frag) (H:Hp) (a:Addr) (xs:List V):Prop:=
 Rd H a (.tup xs) \/
  ∃ (o:Obj) (its:Array Value) (n:Nat),K.lookup a=some o/\(o.cls=.type "tuple"/\o.dict=none)/\o.data=.seq its n/\its.size<=sizeLine/\Vals xs its.toList
noncomputable def qfz:Value->Option V
 | .none=>some .non
 | .bool b=>some (.bl b)
 | .int i _=>some (.int i)
 | .str x _=>some (.str x)
 | .bytes b _=>some (.byt b)
 | .float b _=>some (.flt b)
 | .ref a=>some (.ref a)
 | .type n=>some (.ty n)
 | _=>none
theorem RelV.abs {x:V} {u:Value} (r:RelV x u):qfz u=some x:=by
 cases x with
 | non=>cases r; rfl
 | bl _=>cases r; rfl
 | int _=>obtain ⟨t,rfl⟩:=r; rfl
 | str _=>obtain ⟨t,rfl⟩:=r; rfl
 | byt _=>obtain ⟨t,rfl⟩:=r; rfl
 | flt _=>obtain ⟨t,rfl⟩:=r; rfl
 | ref _=>cases r; rfl
 | ty _=>cases r; rfl
theorem RelV.inj {x y:V} {u:Value} (r:RelV x u) (q:RelV y u):x=y:=Option.some.inj (r.abs.symm.trans q.abs)
theorem Vals.inj:∀ {xs ys:List V} {us:List Value},Vals xs us->Vals ys us->xs=ys
 | _,_,_,.nil,.nil=>rfl
 | _,_,_,.cons r t,.cons r' t'=>by rw [r.inj r',Vals.inj t t']
section
variable {X:Cx} {pins:List (Addr×Obj)} {σ:St} {H:Hp} {s:Shared} {a:Addr} {xs ys:List V}
theorem SqT.of {K:Frag} (h:H a=some (.tup xs)):SqT K H a xs:=.inl (.inl h)
theorem Inv.list (I:Inv X pins σ H s) (h:SqL X.K H a xs):∃ its:List Value,Vals xs its/\PlainL s.heap a its.toArray/\xs.length<=sizeLine:=by
 rcases h with h | ⟨o,its,n,hk,hc,hd,hs,hz,r⟩
 ·obtain ⟨z,its,n,r,e⟩:=h.ok I.hok
  exact ⟨its,r,⟨_,n,e,rfl,rfl,rfl⟩,z⟩
 ·refine ⟨its.toList,r,⟨o,n,I.kIn a o hk,hc,hd,by simpa using hs⟩,?_⟩
  have e:=r.length
  simp only [Array.length_toList] at e
  omega
theorem Inv.tuple (I:Inv X pins σ H s) (h:SqT X.K H a xs):∃ its:List Value,Vals xs its/\IsTup s.heap a its.toArray/\xs.length<=sizeLine:=by
 rcases h with h | ⟨o,its,n,hk,hc,hs,hz,r⟩
 ·obtain ⟨⟨z,_⟩,its,r,p⟩:=h.ok I.hok
  exact ⟨its,r,p,z⟩
 ·refine ⟨its.toList,r,⟨o,I.kIn a o hk,hc.1,n,by simpa using hs⟩,?_⟩
  have e:=r.length
  simp only [Array.length_toList] at e
  omega
theorem Inv.list_inj (I:Inv X pins σ H s) (h:SqL X.K H a xs) (h':SqL X.K H a ys):xs=ys:=by
 obtain ⟨its,r,⟨o,n,e,_,_,d⟩,_⟩:=I.list h
 obtain ⟨its',r',⟨o',n',e',_,_,d'⟩,_⟩:=I.list h'
 rw [e] at e'; cases e'
 rw [d] at d'
 injection d' with d1 _
 have:its=its':=by simpa using congrArg Array.toList d1
 subst this
 exact r.inj r'
theorem Inv.tuple_inj (I:Inv X pins σ H s) (h:SqT X.K H a xs) (h':SqT X.K H a ys):xs=ys:=by
 obtain ⟨its,r,⟨o,e,_,n,d⟩,_⟩:=I.tuple h
 obtain ⟨its',r',⟨o',e',_,n',d'⟩,_⟩:=I.tuple h'
 rw [e] at e'; cases e'
 rw [d] at d'
 injection d' with d1 _
 have:its=its':=by simpa using congrArg Array.toList d1
 subst this
 exact r.inj r'
end
section
variable {X:Cx} {st:Stmt} {rest:List Stmt} {t u:TS} {e:Expr} {te:TE} {pos:Pos}
def qd9:TS:=fun D σ H=>D.nx σ H
def qfA (t u:TS):TS:=fun D σ H=>t { D with nx:=u D } σ H
theorem qap:PSs X [] qd9:=⟨fun _ _ σ H _ I h=>wpAny_execs_nil ⟨σ,H,I,h⟩⟩
theorem XN (h1:PS X st t) (h2:PSs X rest u):PSs X (st::rest) (qfA t u):=by
 refine ⟨?_⟩
 intro pins s σ H D I h
 refine wpAny_execs_cons (thn (h1 pins s σ H { D with nx:=u D } I h) fun f s1 q=>?_)
 cases f with
 | next=>
  obtain ⟨σ',H',I',q⟩:=q
  exact h2 pins s1 σ' H' D I' q
 | ret v=>exact q
 | brk=>exact q
 | cont=>exact q
theorem qaq (h1:PS X st t):PSs X [st] t:=by
 refine ⟨?_⟩
 intro pins s σ H D I h
 refine wpAny_execs_cons (thn (h1 pins s σ H D I h) fun f s1 q=>?_)
 cases f with
 | next=>exact wpAny_execs_nil q
 | ret v=>exact q
 | brk=>exact q
 | cont=>exact q
theorem Inv.quiet {pins:List (Addr×Obj)} {σ:St} {H:Hp} {s:Shared} (I:Inv X pins σ H s):interactive X.env=false:=by simp [interactive,I.ok.kind]
def qea (te:TE):TS:=fun D σ H=>te σ H fun _ H1=>D.nx σ H1
theorem qar (he:PE X e te) (hs:swapsWith e none pos.line X.env=pure false:=by rfl):PS X (.Expr e pos) (qea te):=by
 refine ⟨?_⟩
 intro pins s σ H D I h
 exact wpAny_Expr_any (thn (he pins s σ H _ I h) fun v s1 ⟨x,H1,I1,r1,q1⟩=>⟨σ,H1,I1,q1⟩) I.quiet hs
def qfB (te:TE):TS:=fun D σ H=>te σ H D.rt
theorem qca (he:PE X e te):PS X (.Return (some e) pos) (qfB te):=by
 refine ⟨?_⟩
 intro pins s σ H D I h
 exact wpAny_Return_some (thn (he pins s σ H _ I h) fun v s1 ⟨x,H1,I1,r1,q1⟩=>⟨x,σ,H1,I1,r1,q1⟩)
def qfC (c:TT) (t u:TS):TS:=fun D σ H=>c σ H fun b H1=>if b=true then t D σ H1 else u D σ H1
theorem qeb {c:Expr} {a b:List Stmt} {tc:TT} (hc:PT X c tc) (ha:PSs X a t) (hb:PSs X b u):PS X (.If c a b pos) (qfC tc t u):=by
 refine ⟨?_⟩
 intro pins s σ H D I h
 refine wpAny_If (thn (hc pins s σ H _ I h) fun d s1 ⟨H1,I1,q1⟩=>?_)
 cases d with
 | true=>exact ha pins s1 σ H1 D I1 q1
 | false=>exact hb pins s1 σ H1 D I1 q1
end
abbrev TG:=V->St->Hp->(St->Hp->Prop)->Prop
abbrev TGs:=List V->St->Hp->(St->Hp->Prop)->Prop
structure PG (X:Cx) (target:Expr) (t:TG):Prop where
 run:∀ (pins:List (Addr×Obj)) (s:Shared) (σ:St) (H:Hp) (v:V) (u:Value) (Q:St->Hp->Prop),Inv X pins σ H s->RelV v u->t v σ H Q ->
  wpAny (model X.prog X.w) X.A (assign target X.env u) (fun _ s'=>∃ σ' H',Inv X pins σ' H' s'/\Q σ' H') X.xe s
instance {X:Cx} {target:Expr} {t:TG}:CoeFun (PG X target t) (fun _=>∀ (pins:List (Addr×Obj)) (s:Shared) (σ:St) (H:Hp) (v:V) (u:Value) (Q:St->Hp->Prop),Inv X pins σ H s->RelV v u->t v σ H Q ->
  wpAny (model X.prog X.w) X.A (assign target X.env u) (fun _ s'=>∃ σ' H',Inv X pins σ' H' s'/\Q σ' H') X.xe s):=⟨fun h=>h.run⟩
structure PGs (X:Cx) (ts:List Expr) (t:TGs):Prop where
 run:∀ (pins:List (Addr×Obj)) (s:Shared) (σ:St) (H:Hp) (vs:List V) (us:List Value) (Q:St->Hp->Prop),Inv X pins σ H s->Vals vs us->t vs σ H Q ->
  wpAny (model X.prog X.w) X.A (assignInOrder ((assignEach ts X.env).map (·.2)) us) (fun _ s'=>∃ σ' H',Inv X pins σ' H' s'/\Q σ' H') X.xe s
instance {X:Cx} {ts:List Expr} {t:TGs}:CoeFun (PGs X ts t) (fun _=>∀ (pins:List (Addr×Obj)) (s:Shared) (σ:St) (H:Hp) (vs:List V) (us:List Value) (Q:St->Hp->Prop),Inv X pins σ H s->Vals vs us->t vs σ H Q ->
  wpAny (model X.prog X.w) X.A (assignInOrder ((assignEach ts X.env).map (·.2)) us) (fun _ s'=>∃ σ' H',Inv X pins σ' H' s'/\Q σ' H') X.xe s):=⟨fun h=>h.run⟩
abbrev qec:=V->V->V->Hp->(Hp->Prop)->Prop
def qe3 (X:Cx) (t:qec):Prop:=
 ∀ (pins:List (Addr×Obj)) (s:Shared) (σ:St) (H:Hp) (o i v:V) (ov iv u:Value) (Q:Hp->Prop),Inv X pins σ H s->RelV o ov->RelV i iv->RelV v u->t o i v H Q ->
  wpAny (model X.prog X.w) X.A (setItem ov iv u) (fun _ s'=>∃ H',Inv X pins σ H' s'/\Q H') X.xe s
section
variable {X:Cx} {pos:Pos}
def qcb (i:Nat):TG:=fun v σ H Q=>Q (σ.set i (some v)) H
theorem qas {i:Nat} {x:Str} (hN:X.N.Nodup) (hi:X.N[i]?=some x) (hx:Loc X.env.scope x) (hf:X.fn x=true\/X.env.scope.names.lookup x=some .local:=by first | exact .inl rfl | exact .inr rfl | assumption):PG X (.Name x pos) (qcb i):=by
 refine ⟨?_⟩
 intro pins s σ H v u Q I r h
 exact wpAny_assign_Name (Vh I hN hi hx r (fun s' I'=>⟨_,H,I',h⟩) hf)
def qfD:TGs:=fun vs σ H Q=>vs=[]/\Q σ H
def qed (t:TG) (u:TGs):TGs:=fun vs σ H Q=>∃ v r,vs=v::r/\t v σ H fun σ' H'=>u r σ' H' Q
theorem qat:PGs X [] qfD:=by
 refine ⟨?_⟩
 intro pins s σ H vs us Q I r h
 obtain ⟨e,h⟩:=h
 subst e
 cases r
 exact assignInOrder_nil ⟨σ,H,I,h⟩
theorem XO {e:Expr} {es:List Expr} {t:TG} {u:TGs} (h1:PG X e t) (h2:PGs X es u)
  (hs:(assignEach (e::es) X.env).map (·.2)=assign e X.env::(assignEach es X.env).map (·.2):=by rfl):PGs X (e::es) (qed t u):=by
 refine ⟨?_⟩
 intro pins s σ H vs us Q I r h
 obtain ⟨v,vr,e1,h⟩:=h
 subst e1
 cases r with
 | cons r rr=>
  rw [hs]
  refine assignInOrder_cons (thn (h1 pins s σ H _ _ _ I r h) fun _ s1 ⟨σ1,H1,I1,q1⟩=>?_)
  exact h2 pins s1 σ1 H1 _ _ Q I1 rr q1
def qfE (K:Frag) (n:Nat) (t:TGs):TG:=fun v σ H Q=>∃ a xs,v=.ref a/\SqT K H a xs/\xs.length=n/\t xs σ H Q
theorem qcc {es:List Expr} {k:Nat} {t:TGs} {n:Nat} (hc:X.calm=true) (h:PGs X es t)
  (hn:(assignEach es X.env).length=n:=by rfl) (hst:(assignEach es X.env).findIdx? (·.1)=none:=by rfl):PG X (.Tuple es k pos) (qfE X.K n t):=by
 refine ⟨?_⟩
 intro pins s σ H v u Q I r hw
 obtain ⟨a,xs,e1,hq,hl,hw⟩:=hw
 subst e1
 cases r
 obtain ⟨its,rv,ht,hz⟩:=I.tuple hq
 refine assign_Tuple_tuple (I.ok.hd hc) ht (by simp [hn,<-hl,rv.length]) hst fun h' hx=>?_
 have I1:Inv X pins σ H { s with heap:=h' }:=I.kept (t':=s.toks) fun b o e=>hx b o (Nat.ne_of_lt (Heap.lt_size e)) e
 exact h pins _ σ H xs _ Q I1 (by simpa using rv) hw
def qfF (to ti:TE) (t:qec):TG:=fun v σ H Q=>to σ H fun o H1=>ti σ H1 fun i H2=>t o i v H2 fun H3=>Q σ H3
theorem qcd {o i:Expr} {to ti:TE} {t:qec} (ho:PE X o to) (hi:PE X i ti) (hs:qe3 X t)
  (ha:∀ v,assign (.Subscript o i pos) X.env v=(do
   let ov <-holding [v] (eval o X.env)
   let iv <-holding [v,ov] (eval i X.env)
   standAt pos
   holding [v,ov,iv] (setItem ov iv v)
   release [v,ov,iv] []):=by intro _; rfl):PG X (.Subscript o i pos) (qfF to ti t):=by
 refine ⟨?_⟩
 intro pins s σ H v u Q I r h
 rw [ha]
 refine wpAny_bind (wpAny_holding (thn (ho pins s σ H _ I h) fun ov s1 ⟨x,H1,I1,r1,q1⟩=>?_))
 refine wpAny_bind (wpAny_holding (thn (hi pins s1 σ H1 _ I1 q1) fun iv s2 ⟨y,H2,I2,r2,q2⟩=>?_))
 refine wpAny_bind (wpAny_standAt (wpAny_bind (wpAny_holding (thn (hs pins s2 σ H2 x y v ov iv u _ I2 r1 r2 r q2) fun _ s3 ⟨H3,I3,q3⟩=>?_))))
 exact wpAny_release ⟨σ,H3,I3,q3⟩
def qe4 (te:TE) (g:TG):TS:=fun D σ H=>te σ H fun x H1=>g x σ H1 D.nx
theorem GI {tg e:Expr} {te:TE} {g:TG} (he:PE X e te) (hg:PG X tg g) (hs:swapsWithSole [tg] e pos.line X.env=pure false:=by rfl) (hw:swappedStores [tg] e X.env=pure none:=by rfl)
  (h1:(assignEach [tg] X.env).map (·.2)=[assign tg X.env]:=by rfl):PS X (.Assign [tg] e pos) (qe4 te g):=by
 refine ⟨?_⟩
 intro pins s σ H D I h
 refine wpAny_Assign_stores (thn (he pins s σ H _ I h) fun v s1 ⟨x,H1,I1,r1,q1⟩=>?_) hs hw
 rw [h1]
 exact thn (hg pins s1 σ H1 x v _ I1 r1 q1) fun _ s2 q=>q
theorem GJ {i:Nat} {x:Str} {e:Expr} {te:TE} {pos':Pos} (hN:X.N.Nodup) (hi:X.N[i]?=some x) (hx:Loc X.env.scope x) (he:PE X e te) (hs:swapsWith e (some (.Name x pos')) pos.line X.env=pure false:=by rfl) (hf:X.fn x=true\/X.env.scope.names.lookup x=some .local:=by first | exact .inl rfl | exact .inr rfl | assumption) :
  PS X (.Assign [.Name x pos'] e pos) (qe4 te (qcb i)):=by
 refine ⟨?_⟩
 intro pins s σ H D I h
 refine wpAny_Assign_Name (thn (he pins s σ H _ I h) fun v s1 ⟨y,H1,I1,r1,q1⟩=>?_) hs
 exact Vh I1 hN hi hx r1 (fun s2 I2=>⟨_,H1,I2,q1⟩) hf
end
section
variable {X:Cx} {pos:Pos}
def qce (c:TT) (tb:TS):TS:=fun D σ H=>∃ W:Nat->St->Hp->Prop,(∃ m,W m σ H)/\∀ m σ H,W m σ H ->
 c σ H fun b H1=>if b=true then ∃ N:St->Hp->Prop,(∀ σ' H',N σ' H'->∃ m',m' < m/\W m' σ' H')/\tb { D with nx:=N,ct:=N,bk:=D.nx } σ H1 else D.nx σ H1
theorem XQ {c:Expr} {body:List Stmt} {tc:TT} {tb:TS} (hp:PassesOwn (model X.prog X.w) X.A X.env X.xe) (hc:PT X c tc) (hb:PSs X body tb):PS X (.While c body [] pos) (qce tc tb):=by
 refine ⟨?_⟩
 intro pins s σ H D I h
 obtain ⟨W,⟨m0,w0⟩,turn⟩:=h
 refine wpAny_While (codeAny_whileLoop (fun n s'=>∃ σ' H',Inv X pins σ' H' s'/\W n σ' H') ?_ m0 ⟨σ,H,I,w0⟩)
 rintro n s1 ⟨σ1,H1,I1,w1⟩
 refine wpAny_passesOwn hp (thn (hc pins s1 σ1 H1 _ I1 (turn n σ1 H1 w1)) fun b s2 ⟨H2,I2,q2⟩=>?_)
 cases b with
 | true=>
  obtain ⟨N,hN,q2⟩:=q2
  rw [if_pos rfl]
  refine wpAny_passesOwn hp (thn (hb pins s2 σ1 H2 _ I2 q2) fun f s3 q3=>?_)
  cases f with
  | next=>
   obtain ⟨σ3,H3,I3,n3⟩:=q3
   obtain ⟨m',hm,w3⟩:=hN σ3 H3 n3
   exact ⟨m',hm,σ3,H3,I3,w3⟩
  | cont=>
   obtain ⟨σ3,H3,I3,n3⟩:=q3
   obtain ⟨m',hm,w3⟩:=hN σ3 H3 n3
   exact ⟨m',hm,σ3,H3,I3,w3⟩
  | brk=>exact q3
  | ret v=>exact q3
 | false=>
  rw [if_neg Bool.false_ne_true]
  exact wpAny_execs_nil ⟨σ1,H2,I2,q2⟩
end
structure It where
 go:Nat->Hp->Prop
 yld:Nat->Hp->V->Hp->Prop
 stop:Nat->Hp->Prop
def JJ (X:Cx) (pins:List (Addr×Obj)) (H:Hp) (b:Addr):Prop:=
 H b=none/\b≠X.env.locals/\b∉X.fs/\(b∈X.ex\/X.s₀.heap.objs.size<=b)/\(∀ x c,X.env.cells.lookup x=some c->c≠b)/\∀ p∈X.pn++pins,p.1≠b
theorem Inv.fpOk {X:Cx} {pins:List (Addr×Obj)} {σ:St} {H H':Hp} {s:Shared} {b:Addr} (I:Inv X pins σ H s) (hb:s.heap.objs.size<=b) (hn:H' b=none):JJ X pins H' b:=by
 refine ⟨hn,Nat.ne_of_gt (Nat.lt_of_lt_of_le I.lt hb),I.nofs hb,.inr (Nat.le_trans I.sz hb),fun x c e z=>?_,fun p hp z=>?_⟩
 ·obtain ⟨v,q⟩:=I.cell x c e
  exact absurd (Nat.lt_of_lt_of_le q.lt (by rw [z]; exact hb)) (Nat.lt_irrefl _)
 ·exact absurd (Nat.lt_of_lt_of_le (Heap.lt_size (I.pin p hp).1) (by rw [z]; exact hb)) (Nat.lt_irrefl _)
structure Turn (P:Program) (w:World) (K:Frag) (tg:Expr) (J:It) (fp:List Addr) (it:Addr) (tn:Nat->Heap->Prop):Prop where
 mem:it∈fp
 obj:∀ i h,tn i h->∀ b∈fp,∃ o,h.get? b=some o/\∀ v,o.data≠.cell v
 keep:∀ i h h',tn i h->(∀ b∈fp,∀ o,h.get? b=some o->h'.get? b=some o)->tn i h'
 item:∀ (X:Cx),X.prog=P->X.w=w->X.K=K->X.calm=true->∀ (i:Nat) (pins:List (Addr×Obj)) (s:Shared) (σ:St) (H:Hp) (E:Value->Shared->Prop),Inv X pins σ H s->(∀ b∈fp,JJ X pins H b)->tn i s.heap->J.go i H ->
  wpAny (model P w) X.A (pyNext (.ref it)) (fun r s1=>∃ u,r=some u /\
   wpAny (model P w) X.A (letOwnedTupleGo tg (.ref it) u) (fun _ s2=>∃ x H',Inv X pins σ H' s2/\RelV x u/\J.yld i H x H'/\tn (i+1) s2.heap/\∀ b∈fp,H' b=none) E s1) E s
 done:∀ (X:Cx),X.prog=P->X.w=w->X.K=K->X.calm=true->∀ (i:Nat) (pins:List (Addr×Obj)) (s:Shared) (σ:St) (H:Hp) (E:Value->Shared->Prop),Inv X pins σ H s->(∀ b∈fp,JJ X pins H b)->tn i s.heap->J.stop i H ->
  wpAny (model P w) X.A (pyNext (.ref it)) (fun r s1=>r=none/\Inv X pins σ H s1) E s
 self:∀ (A:Around) (i:Nat) (s:Shared) (Q:Value->Shared->Prop) (E:Value->Shared->Prop),tn i s.heap->Q (.ref it) s->wpAny (model P w) A (pyIter (.ref it)) Q E s
abbrev TI:=St->Hp->(It->Hp->Prop)->Prop
def PIE (X:Cx) (pins:List (Addr×Obj)) (σ:St) (tg:Expr) (R:It->Hp->Prop) (itv:Value) (s2:Shared):Prop:=
 ∃ (it:Addr) (fp:List Addr) (tn:Nat->Heap->Prop) (J:It) (H':Hp),itv=.ref it/\Inv X pins σ H' s2/\Turn X.prog X.w X.K tg J fp it tn/\tn 0 s2.heap/\(∀ b∈fp,JJ X pins H' b)/\R J H'
structure PI (X:Cx) (tg iter:Expr) (wi:TI):Prop where
 run:∀ (pins:List (Addr×Obj)) (s:Shared) (σ:St) (H:Hp) (R:It->Hp->Prop),Inv X pins σ H s->wi σ H R ->
  wpAny (model X.prog X.w) X.A (eval iter X.env) (fun v s1=>wpAny (model X.prog X.w) X.A (pyIter v) (PIE X pins σ tg R) X.xe s1) X.xe s
instance {X:Cx} {tg iter:Expr} {wi:TI}:CoeFun (PI X tg iter wi) (fun _=>∀ (pins:List (Addr×Obj)) (s:Shared) (σ:St) (H:Hp) (R:It->Hp->Prop),Inv X pins σ H s->wi σ H R ->
  wpAny (model X.prog X.w) X.A (eval iter X.env) (fun v s1=>wpAny (model X.prog X.w) X.A (pyIter v) (PIE X pins σ tg R) X.xe s1) X.xe s):=⟨fun h=>h.run⟩
theorem XR {M:Model} {A:Around} {E:Value->Shared->Prop} {s:Shared} {tg:Expr} {it:Addr} {u:Value} {o:Obj} {n:String} {vs:Array Value} {Q:Unit->Shared->Prop} (ho:s.heap.get? it=some o) (hc:o.cls=.type n) (hd:o.data=.fields vs)
    (hn:["enumerate", "zip", "dict_itemiterator", "dict_reverseitemiterator", "odict_iterator", "itertools.zip_longest", "itertools.pairwise"].contains n=false) (hQ:Q () s):wpAny M A (letOwnedTupleGo tg (.ref it) u) Q E s:=by
  unfold letOwnedTupleGo
  cases tg <;> first
    | exact wpAny_pure hQ
    | (cases u <;> first
        | exact wpAny_pure hQ
        | (refine wpAny_bind (wpAny_load ho ?_)
           rw [hc,hd]
           show wpAny M A (if (["enumerate", "zip", "dict_itemiterator", "dict_reverseitemiterator", "odict_iterator", "itertools.zip_longest", "itertools.pairwise"].contains n&&vs[0]? == some (rawInt _))=true then _ else _) Q E s
           rw [if_neg (by intro h; rw [hn,Bool.false_and] at h; cases h)]
           exact wpAny_pure hQ))
noncomputable def Itl (K:Frag) (a:Addr):It:=
 ⟨fun i H=>∃ xs x,SqL K H a xs/\xs[i]?=some x,fun i H x H'=>H'=H/\∀ xs,SqL K H a xs->xs[i]?=some x,fun i H=>∃ xs,SqL K H a xs/\xs.length<=i⟩
noncomputable def Itt (K:Frag) (a:Addr):It:=
 ⟨fun i H=>∃ xs x,SqT K H a xs/\xs[i]?=some x,fun i H x H'=>H'=H/\∀ xs,SqT K H a xs->xs[i]?=some x,fun i H=>∃ xs,SqT K H a xs/\xs.length<=i⟩
noncomputable def Itr (lo:Int) (n:Nat):It:=⟨fun i _=>i < n,fun i H x H'=>H'=H/\x=.int (lo+i),fun i _=>n<=i⟩
theorem Uk {P:Program} {w:World} {K:Frag} {tg:Expr} (a it:Addr):Turn P w K tg (Itl K a) [it] it (fun i h=>h.IsListIter it a i) where
 mem:=by simp
 obj:=fun i h st b hb=>by
  have e:b=it:=by simpa using hb
  subst e
  obtain ⟨o,e,c,d⟩:=st
  exact ⟨o,e,fun v z=>by rw [d] at z; cases z⟩
 keep:=fun i h h' st k=>st.at fun o e=>k it (by simp) o e
 item:=by
  intro X hP hw hK hc i pins s σ H E I hf st hg
  subst hP hw hK
  obtain ⟨xs,x,hq,hx⟩:=hg
  obtain ⟨its,rv,p,hz⟩:=I.list hq
  obtain ⟨u,hu,ru⟩:=rv.get hx
  obtain ⟨f0,f1,f2,f3,f4,f5⟩:=hf it (by simp)
  refine wpAny_pyNext_list_item st p.isList (x:=u) (by simpa using hu) fun h' st' sb=>?_
  have I1:Inv X pins σ H { s with heap:=h' }:=I.turned (t':=s.toks) (fun b o hb e=>(sb.2 b hb).trans e) f0 f1 f3 f4 f5
  obtain ⟨o,e,c,d⟩:=id st'
  exact ⟨u,rfl,XR (s:={ s with heap:=h' }) e c d (by decide) ⟨x,H,I1,ru,⟨rfl,fun ys hy=>by rw [I.list_inj hy hq]; exact hx⟩,st',fun b hb=>(hf b hb).1⟩⟩
 done:=by
  intro X hP hw hK hc i pins s σ H E I hf st hg
  subst hP hw hK
  obtain ⟨xs,hq,hx⟩:=hg
  obtain ⟨its,rv,p,hz⟩:=I.list hq
  obtain ⟨f0,f1,f2,f3,f4,f5⟩:=hf it (by simp)
  have hl:=rv.length
  exact wpAny_pyNext_list_end (I.ok.hd hc) st p.isList (by simp; omega) fun h' eb=>⟨rfl,I.turned (t':=s.toks) (fun b o hb e=>eb b o hb e) f0 f1 f3 f4 f5⟩
 self:=fun _ _ _ _ _ st h=>wpAny_pyIter_listiter st h
theorem Ws {P:Program} {w:World} {K:Frag} {tg:Expr} (a it:Addr):Turn P w K tg (Itt K a) [it] it (fun i h=>h.IsTupleIter it a i) where
 mem:=by simp
 obj:=fun i h st b hb=>by
  have e:b=it:=by simpa using hb
  subst e
  obtain ⟨o,e,c,d⟩:=st
  exact ⟨o,e,fun v z=>by rw [d] at z; cases z⟩
 keep:=fun i h h' st k=>st.at fun o e=>k it (by simp) o e
 item:=by
  intro X hP hw hK hc i pins s σ H E I hf st hg
  subst hP hw hK
  obtain ⟨xs,x,hq,hx⟩:=hg
  obtain ⟨its,rv,p,hz⟩:=I.tuple hq
  obtain ⟨u,hu,ru⟩:=rv.get hx
  obtain ⟨f0,f1,f2,f3,f4,f5⟩:=hf it (by simp)
  refine wpAny_pyNext_tuple_item st (show s.heap.IsTuple a its.toArray from p) (x:=u) (by simpa using hu) fun h' st' sb=>?_
  have I1:Inv X pins σ H { s with heap:=h' }:=I.turned (t':=s.toks) (fun b o hb e=>(sb.2 b hb).trans e) f0 f1 f3 f4 f5
  obtain ⟨o,e,c,d⟩:=id st'
  exact ⟨u,rfl,XR (s:={ s with heap:=h' }) e c d (by decide) ⟨x,H,I1,ru,⟨rfl,fun ys hy=>by rw [I.tuple_inj hy hq]; exact hx⟩,st',fun b hb=>(hf b hb).1⟩⟩
 done:=by
  intro X hP hw hK hc i pins s σ H E I hf st hg
  subst hP hw hK
  obtain ⟨xs,hq,hx⟩:=hg
  obtain ⟨its,rv,p,hz⟩:=I.tuple hq
  obtain ⟨f0,f1,f2,f3,f4,f5⟩:=hf it (by simp)
  have hl:=rv.length
  exact wpAny_pyNext_tuple_end (I.ok.hd hc) st (show s.heap.IsTuple a its.toArray from p) (by simp; omega) fun h' eb=>⟨rfl,I.turned (t':=s.toks) (fun b o hb e=>eb b o hb e) f0 f1 f3 f4 f5⟩
 self:=fun _ _ _ _ _ st h=>wpAny_pyIter_tupleiter st h
theorem Wt {P:Program} {w:World} {K:Frag} {tg:Expr} (it:Addr) (lo:Int) (n:Nat):Turn P w K tg (Itr lo n) [it] it (fun i h=>IsRangeIter h it (lo+(i:Nat) * 1) ((n:Int) - (i:Nat)) 1) where
 mem:=by simp
 obj:=fun i h st b hb=>by
  have e:b=it:=by simpa using hb
  subst e
  exact ⟨_,st,fun v z=>by
   have z':Data.fields _=Data.cell v:=z
   cases z'⟩
 keep:=fun i h h' st k=>k it (by simp) _ st
 item:=by
  intro X hP hw hK hc i pins s σ H E I hf st hg
  subst hP hw hK
  obtain ⟨f0,f1,f2,f3,f4,f5⟩:=hf it (by simp)
  have W:=Walks.range (prog:=X.prog) (w:=X.w) (I.ok.hd hc) it lo 1 n
  refine W.item i s _ _ hg st fun v h' tk hv st' kk=>?_
  obtain ⟨t,rfl⟩:=hv
  have I1:Inv X pins σ H { s with heap:=h',toks:=tk }:=I.turned (fun b o hb e=>kk b o (by simpa using hb) e) f0 f1 f3 f4 f5
  refine ⟨_,rfl,XR (s:={ s with heap:=h',toks:=tk }) (n := "range_iterator") st' rfl rfl (by decide) ⟨.int (lo+i),H,I1,⟨t,?_⟩,⟨rfl,rfl⟩,st',fun b hb=>(hf b hb).1⟩⟩
  rw [Int.mul_one]
 done:=by
  intro X hP hw hK hc i pins s σ H E I hf st hg
  subst hP hw hK
  obtain ⟨f0,f1,f2,f3,f4,f5⟩:=hf it (by simp)
  exact wpAny_pyNext_range_end (I.ok.hd hc) st (by have:n<=i:=hg; omega) fun h' eb=>⟨rfl,I.turned (t':=s.toks) (fun b o hb e=>eb b o hb e) f0 f1 f3 f4 f5⟩
 self:=fun _ _ _ _ _ st h=>wpAny_pyIter_rangeiter st h
section
variable {X:Cx} {tg:Expr}
theorem XS {pins:List (Addr×Obj)} {σ:St} {H:Hp} {s:Shared} {R:It->Hp->Prop} {E:Value->Shared->Prop} {lo hi:Int} {t u v:Tok} {tk:Nat} (I:Inv X pins σ H s) (h1:-(2 ^ 62)<=lo) (h2:lo < 2 ^ 62) (h3:-(2 ^ 62)<=hi) (h4:hi < 2 ^ 62)
  (q:R (Itr lo (hi - lo).toNat) H):wpAny (model X.prog X.w) X.A (pyIter (.ref s.heap.objs.size)) (PIE X pins σ tg R) E { s with heap:=s.heap.push { cls:=.type "range",data:=.fields #[.int lo t,.int hi u,.int 1 v] },toks:=tk }:=by
 refine wpAny_pyIter_range (IsRange.new ..) (small_one h1 h2 h3 h4) ?_
 have I1:Inv X pins σ H { s with heap:=s.heap.push { cls:=.type "range",data:=.fields #[.int lo t,.int hi u,.int 1 v] },toks:=tk }:=I.kept fun b o e=>Heap.get?_push_of_some _ e
 refine ⟨(s.heap.push { cls:=.type "range",data:=.fields #[.int lo t,.int hi u,.int 1 v] }).objs.size,[(s.heap.push { cls:=.type "range",data:=.fields #[.int lo t,.int hi u,.int 1 v] }).objs.size],_,_,H,rfl,
  I1.kept (t':=tk) fun b o e=>Heap.get?_push_of_some _ e,Wt _ lo (hi - lo).toNat,?_,fun b hb=>?_,q⟩
 ·have e1:lo+((0:Nat):Int) * 1=lo:=by simp
  have e2:(((hi - lo).toNat:Nat):Int) - ((0:Nat):Int)=Builtin.Range.rangeSize lo hi 1:=by rw [rangeSize_one]; split <;> omega
  show IsRangeIter _ _ (lo+((0:Nat):Int) * 1) ((((hi - lo).toNat:Nat):Int) - ((0:Nat):Int)) 1
  rw [e1,e2]
  exact Heap.get?_push_size _ rfl
 ·have e:b=(s.heap.push { cls:=.type "range",data:=.fields #[.int lo t,.int hi u,.int 1 v] }).objs.size:=by simpa using hb
  subst e
  exact I1.fpOk (Nat.le_refl _) (I1.hok.fresh (Nat.le_refl _))
def qee (ta:TA):TI:=fun σ H R=>ta σ H fun vs H1=>∃ j:Int,vs=[.int j]/\-(2 ^ 62)<=j/\j < 2 ^ 62/\R (Itr 0 j.toNat) H1
theorem Ul {a:Expr} {ta:TA} {p pos:Pos} (hg:Gl X "range") (hm:X.mg "range"=none) (ha:PA X [a] ta) (hs:starEach [a] X.env=[(false,eval a X.env)]:=by rfl):PI X tg (.Call (.Name "range" p) [a] [] pos) (qee ta):=by
 refine ⟨?_⟩
 intro pins s σ H R I h
 refine Call_ (xx I hg hm boot_range (PyProof.Rows.callWith_type1 (thn (ha pos pins s σ H _ I h) fun us s1 ⟨vs,H1,I1,r1,q1⟩=>?_) hs rfl))
 obtain ⟨j,e,q1,q2,q⟩:=q1
 subst e
 cases r1 with
 | cons r rr=>
  cases rr
  obtain ⟨t,rfl⟩:=r
  exact call_range_1 (XS I1 (by omega) (by omega) q1 q2 (by simpa using q))
def qfG (wi:TI) (g:TG) (tb:TS):TS:=fun D σ H=>wi σ H fun J H1=>∃ W:Nat->Nat->St->Hp->Prop,(∃ m,W 0 m σ H1)/\∀ i m σ H,W i m σ H ->
 (J.stop i H/\D.nx σ H)\/(J.go i H/\∃ N:St->Hp->Prop,(∀ σ' H',N σ' H'->∃ m',m' < m/\W (i+1) m' σ' H')/\∀ x H',J.yld i H x H'->g x σ H' fun σ2 H2=>tb { D with nx:=N,ct:=N,bk:=D.nx } σ2 H2)
noncomputable def QF (fp:List Addr) (h:Heap):List (Addr×Obj):=fp.filterMap fun b=>(h.get? b).map fun o=>(b,o)
theorem wB {fp:List Addr} {h:Heap} {b:Addr} {o:Obj} (hb:b∈fp) (e:h.get? b=some o):(b,o)∈QF fp h:=List.mem_filterMap.mpr ⟨b,hb,by rw [e]; rfl⟩
theorem Um {fp:List Addr} {h:Heap} {p:Addr×Obj} (hp:p∈QF fp h):p.1∈fp/\h.get? p.1=some p.2:=by
 obtain ⟨b,hb,e⟩:=List.mem_filterMap.mp hp
 cases q:h.get? b with
 | none=>rw [q] at e; cases e
 | some o=>
  rw [q] at e
  have e':(b,o)=p:=Option.some.inj e
  subst e'
  exact ⟨hb,q⟩
theorem Inv.pinned {pins:List (Addr×Obj)} {σ:St} {H:Hp} {s:Shared} {fp:List Addr} (I:Inv X pins σ H s) (hf:∀ b∈fp,JJ X pins H b) (ho:∀ b∈fp,∃ o,s.heap.get? b=some o/\∀ v,o.data≠.cell v):Inv X (pins++QF fp s.heap) σ H s:=
 I.pins_of fun p hp=>(List.mem_append.mp hp).elim (fun z=>I.pin p (List.mem_append_right _ z)) fun z=>by
  obtain ⟨hb,e⟩:=Um z
  obtain ⟨f0,f1,f2,_⟩:=hf p.1 hb
  obtain ⟨o,e',d⟩:=ho p.1 hb
  rw [e] at e'; cases e'
  exact ⟨e,f0,f1,f2,d⟩
theorem Inv.unpinned {pins pl:List (Addr×Obj)} {σ:St} {H:Hp} {s:Shared} (I:Inv X (pins++pl) σ H s):Inv X pins σ H s:=I.pins_of fun p hp=>I.pin p (List.mem_append_right _ (List.mem_append_left _ hp))
theorem qcf {iter:Expr} {body:List Stmt} {wi:TI} {g:TG} {tb:TS} {pos:Pos} (hp:PassesOwn (model X.prog X.w) X.A X.env X.xe) (hc:X.calm=true) (hi:PI X tg iter wi) (hg:PG X tg g) (hb:PSs X body tb)
  (hs:∀ x,foldedSetIterable iter X.env x=pure x:=by intro _; rfl):PS X (.For tg iter body [] pos) (qfG wi g tb):=by
 refine ⟨?_⟩
 intro pins s σ H D I h
 refine wpAny_For (thn (hi pins s σ H _ I h) fun v s1 h1=>thn h1 fun itv s2 h2=>?_) hs
 obtain ⟨it,fp,tn,J,H2,e,I2,T,st2,f2,W,⟨m0,w0⟩,turn⟩:=h2
 subst e
 have stat:∀ {H':Hp},(∀ b∈fp,H' b=none)->∀ b∈fp,JJ X pins H' b:=fun hn b hb=>⟨hn b hb,(f2 b hb).2⟩
 refine codeAny_forLoop_any (fun n s'=>∃ i σ' H',Inv X pins σ' H' s'/\tn i s'.heap/\(∀ b∈fp,H' b=none)/\W i n σ' H') ?_ m0 ⟨0,σ,H2,I2,st2,fun b hb=>(f2 b hb).1,w0⟩
 rintro n s3 ⟨i,σ3,H3,I3,st3,fr3,w3⟩
 rcases turn i n σ3 H3 w3 with ⟨stop,qn⟩ | ⟨go,N,hN,step⟩
 ·refine wpAny_passesOwn hp (thn (T.done X rfl rfl rfl hc i pins s3 σ3 H3 X.xe I3 (stat fr3) st3 stop) fun r s4 ⟨hr,I4⟩=>?_)
  subst hr
  exact wpAny_execs_nil ⟨σ3,H3,I4,qn⟩
 ·refine wpAny_passesOwn hp (thn (T.item X rfl rfl rfl hc i pins s3 σ3 H3 X.xe I3 (stat fr3) st3 go) fun r s4 ⟨u,hr,h4⟩=>?_)
  subst hr
  refine wpAny_passesOwn hp (thn h4 fun _ s5 ⟨x,H5,I5,r5,y5,st5,fr5⟩=>?_)
  have I5':=I5.pinned (stat fr5) (T.obj _ _ st5)
  refine wpAny_passesOwn hp (thn (hg _ s5 σ3 H5 x u _ I5' r5 (step x H5 y5)) fun _ s6 ⟨σ6,H6,I6,q6⟩=>?_)
  refine wpAny_passesOwn hp (thn (hb _ s6 σ6 H6 _ I6 q6) fun f s7 q7=>?_)
  have again:∀ {σ7:St} {H7:Hp},Inv X (pins++QF fp s5.heap) σ7 H7 s7->N σ7 H7->∃ m,m < n/\∃ i σ' H',Inv X pins σ' H' s7/\tn i s7.heap/\(∀ b∈fp,H' b=none)/\W i m σ' H':=fun {σ7 H7} I7 n7=>by
   obtain ⟨m',hm,w7⟩:=hN σ7 H7 n7
   refine ⟨m',hm,i+1,σ7,H7,I7.unpinned,T.keep _ _ _ st5 fun b hb o e=>(I7.pin (b,o) (List.mem_append_right _ (List.mem_append_right _ (wB hb e)))).1,fun b hb=>?_,w7⟩
   obtain ⟨o,e,d⟩:=T.obj _ _ st5 b hb
   exact (I7.pin (b,o) (List.mem_append_right _ (List.mem_append_right _ (wB hb e)))).2.1
  cases f with
  | next=>obtain ⟨σ7,H7,I7,n7⟩:=q7; exact again I7 n7
  | cont=>obtain ⟨σ7,H7,I7,n7⟩:=q7; exact again I7 n7
  | brk=>obtain ⟨σ7,H7,I7,q7⟩:=q7; exact ⟨σ7,H7,I7.unpinned,q7⟩
  | ret v=>obtain ⟨x7,σ7,H7,I7,r7,q7⟩:=q7; exact ⟨x7,σ7,H7,I7.unpinned,r7,q7⟩
end
abbrev R2:=V->V->Hp->VK->Prop
def OpR (X:Cx) (f:Value->Value->Sem Value) (r:R2):Prop:=
 ∀ (pins:List (Addr×Obj)) (s:Shared) (σ:St) (H:Hp) (x y:V) (v u:Value) (Q:VK),Inv X pins σ H s->RelV x v->RelV y u->r x y H Q ->
  wpAny (model X.prog X.w) X.A (f v u) (EP X pins σ Q) X.xe s
def UnR (X:Cx) (f:Value->Sem Value) (r:V->Hp->VK->Prop):Prop:=
 ∀ (pins:List (Addr×Obj)) (s:Shared) (σ:St) (H:Hp) (x:V) (v:Value) (Q:VK),Inv X pins σ H s->RelV x v->r x H Q ->
  wpAny (model X.prog X.w) X.A (f v) (EP X pins σ Q) X.xe s
def wS (X:Cx) (f:Value) (r:List V->Hp->VK->Prop):Prop:=
 ∀ (pins:List (Addr×Obj)) (s:Shared) (σ:St) (H:Hp) (xs:List V) (us:List Value) (Q:VK),Inv X pins σ H s->Vals xs us->r xs H Q ->
  wpAny (model X.prog X.w) X.A (call f us) (EP X pins σ Q) X.xe s
def qfH (X:Cx) (r:V->Hp->(Bool->Hp->Prop)->Prop):Prop:=
 ∀ (pins:List (Addr×Obj)) (s:Shared) (σ:St) (H:Hp) (x:V) (v:Value) (Q:Bool->Hp->Prop),Inv X pins σ H s->RelV x v->r x H Q ->
  wpAny (model X.prog X.w) X.A (truthy v) (TP X pins σ Q) X.xe s
def tOp (r:R2) (ta tb:TE):TE:=fun σ H Q=>ta σ H fun x H1=>tb σ H1 fun y H2=>r x y H2 Q
def tUn (r:V->Hp->VK->Prop) (ta:TE):TE:=fun σ H Q=>ta σ H fun x H1=>r x H1 Q
def rI (C:Int->Int->Prop) (g:Int->Int->V):R2:=fun x y H Q=>∃ i j,x=.int i/\y=.int j/\C i j/\Q (g i j) H
def rI0 (g:Int->Int->V):R2:=fun x y H Q=>∃ i j,x=.int i/\y=.int j/\Q (g i j) H
def rU (g:Int->V):V->Hp->VK->Prop:=fun x H Q=>∃ i,x=.int i/\Q (g i) H
section
variable {X:Cx} {a b c:Expr} {ta tb tc:TE} {pos:Pos}
theorem qef (ha:PE X a ta) (hb:PE X b tb) {pins:List (Addr×Obj)} {s:Shared} {σ:St} {H:Hp} {R:V->V->Hp->Prop} (I:Inv X pins σ H s)
  (h:ta σ H fun x H1=>tb σ H1 fun y H2=>R x y H2) {Q:Value->Shared->Prop} {f:Value->Value->Sem Value}
  (hf:∀ v u s2 x y H2,Inv X pins σ H2 s2->RelV x v->RelV y u->R x y H2->wpAny (model X.prog X.w) X.A (f v u) Q X.xe s2) :
  wpAny (model X.prog X.w) X.A (eval a X.env) (fun v s₁=>wpAny (model X.prog X.w) X.A (eval b X.env) (fun u s₂=>wpAny (model X.prog X.w) X.A (f v u) Q X.xe s₂) X.xe s₁) X.xe s:=by
 refine thn (ha pins s σ H _ I h) fun v s1 ⟨x,H1,I1,r1,q1⟩=>?_
 refine thn (hb pins s1 σ H1 _ I1 q1) fun u s2 ⟨y,H2,I2,r2,q2⟩=>?_
 exact hf v u s2 x y H2 I2 r1 r2 q2
theorem qeg {op:Operator} {r:R2} (ho:OpR X (binaryOp op) r) (ha:PE X a ta) (hb:PE X b tb):PE X (.BinOp a op b pos) (tOp r ta tb):=by
 refine ⟨?_⟩
 intro pins s σ H Q I h
 exact wpAny_BinOp (qef ha hb I h fun v u s2 x y H2 I2 rx ry q=>ho pins s2 σ H2 x y v u Q I2 rx ry q)
theorem qeh {op:UnaryOp} {r:V->Hp->VK->Prop} (ho:UnR X (unaryOp op) r) (ha:PE X a ta):PE X (.UnaryOp op a pos) (tUn r ta):=by
 refine ⟨?_⟩
 intro pins s σ H Q I h
 exact UnaryOp_ (thn (ha pins s σ H _ I h) fun v s1 ⟨x,H1,I1,r1,q1⟩=>ho pins s1 σ H1 x v Q I1 r1 q1)
theorem opI {f:Value->Value->Sem Value} {C:Int->Int->Prop} {g:Int->Int->Int}
  (rule:∀ (i j:Int) (t u:Tok) (s:Shared) (Q:Value->Shared->Prop) (E:Value->Shared->Prop),C i j->Q (.int (g i j) s.toks) { s with toks:=s.toks+1 }->wpAny (model X.prog X.w) X.A (f (.int i t) (.int j u)) Q E s) :
  OpR X f (rI C fun i j=>.int (g i j)):=by
 intro pins s σ H x y v u Q I rx ry h
 obtain ⟨i,j,rfl,rfl,hc,q⟩:=h
 obtain ⟨t,rfl⟩:=rx
 obtain ⟨t',rfl⟩:=ry
 exact rule i j t t' s _ _ hc ⟨.int (g i j),H,I.tok _,⟨_,rfl⟩,q⟩
theorem qe5 {f:Value->Value->Sem Value} {g:Int->Int->Int}
  (rule:∀ (i j:Int) (t u:Tok) (s:Shared) (Q:Value->Shared->Prop) (E:Value->Shared->Prop),Q (.int (g i j) s.toks) { s with toks:=s.toks+1 }->wpAny (model X.prog X.w) X.A (f (.int i t) (.int j u)) Q E s) :
  OpR X f (rI0 fun i j=>.int (g i j)):=by
 intro pins s σ H x y v u Q I rx ry h
 obtain ⟨i,j,rfl,rfl,q⟩:=h
 obtain ⟨t,rfl⟩:=rx
 obtain ⟨t',rfl⟩:=ry
 exact rule i j t t' s _ _ ⟨.int (g i j),H,I.tok _,⟨_,rfl⟩,q⟩
theorem qdK {f:Value->Value->Sem Value} {g:Int->Int->Bool}
  (rule:∀ (i j:Int) (t u:Tok) (s:Shared) (Q:Value->Shared->Prop) (E:Value->Shared->Prop),Q (.bool (g i j)) s->wpAny (model X.prog X.w) X.A (f (.int i t) (.int j u)) Q E s) :
  OpR X f (rI0 fun i j=>.bl (g i j)):=by
 intro pins s σ H x y v u Q I rx ry h
 obtain ⟨i,j,rfl,rfl,q⟩:=h
 obtain ⟨t,rfl⟩:=rx
 obtain ⟨t',rfl⟩:=ry
 exact rule i j t t' s _ _ ⟨.bl (g i j),H,I,rfl,q⟩
def qbS (i j:Int):Prop:=0 < j/\j < 1073741824
def qbT (i j:Int):Prop:=0<=j/\j<=1000000/\i.natAbs < 2 ^ 64
def CMul (i j:Int):Prop:=(-(2 ^ 64) < i/\i < 2 ^ 64)\/(-(2 ^ 64) < j/\j < 2 ^ 64)
theorem CMul.ok {i j:Int} (h:CMul i j):IntMulOk i j:=by
 rcases h with ⟨h1,h2⟩ | ⟨h1,h2⟩
 ·exact .of_left (intBits_le_64 h1 h2)
 ·exact .of_right (intBits_le_64 h1 h2)
theorem qcg:OpR X (binaryOp .Add) (rI0 fun i j=>.int (i+j)):=qe5 fun _ _ _ _ _ _ _ q=>add_int q
theorem qch:OpR X (binaryOp .Sub) (rI0 fun i j=>.int (i - j)):=qe5 fun _ _ _ _ _ _ _ q=>sub_int q
theorem qci:OpR X (binaryOp .Mult) (rI CMul fun i j=>.int (i * j)):=opI fun _ _ _ _ _ _ _ hc q=>mul_int q hc.ok
theorem qau:OpR X (binaryOp .FloorDiv) (rI qbS fun i j=>.int (i / j)):=opI fun i j _ _ _ _ _ hc q=>by
 have h1:(0:Int) < j:=hc.1
 have h2:j < 1073741824:=hc.2
 exact floordiv_int (by omega) (by rw [Int.fdiv_eq_ediv_of_nonneg i (by omega)]; exact q) (.inl (PyProof.noPylong_small (by omega)))
theorem qcj:OpR X (binaryOp .Mod) (rI (fun _ j=>0 < j) fun i j=>.int (i % j)):=opI fun i j _ _ _ _ _ hc q=>by
 have h1:(0:Int) < j:=hc
 exact mod_int' (by omega) (by rw [Int.fmod_eq_emod_of_nonneg i (by omega)]; exact q)
theorem GK:OpR X (binaryOp .Pow) (rI qbT fun i j=>.int (i ^ j.toNat)):=opI fun _ _ _ _ _ _ _ hc q=>pow_int_small hc.1 hc.2.1 hc.2.2 q
theorem unI {f:Value->Sem Value} {g:Int->Int}
  (rule:∀ (i:Int) (t:Tok) (s:Shared) (Q:Value->Shared->Prop) (E:Value->Shared->Prop),Q (.int (g i) s.toks) { s with toks:=s.toks+1 }->wpAny (model X.prog X.w) X.A (f (.int i t)) Q E s) :
  UnR X f (rU fun i=>.int (g i)):=by
 intro pins s σ H x v Q I rx h
 obtain ⟨i,rfl,q⟩:=h
 obtain ⟨t,rfl⟩:=rx
 exact rule i t s _ _ ⟨.int (g i),H,I.tok _,⟨_,rfl⟩,q⟩
theorem qck:UnR X (unaryOp .USub) (rU fun i=>.int (-i)):=unI fun _ _ _ _ _ q=>neg_int q
end
section
variable {X:Cx} {a b c:Expr} {ta tb tc:TE} {pos:Pos}
theorem Uo {pins:List (Addr×Obj)} {σ:St} {H:Hp} {s:Shared} {Q:VK} {k k':Bool} (I:Inv X pins σ H s) (q:Q (.bl k) H) (e:k=k'):EP X pins σ Q (.bool k') s:=by
 subst e
 exact ⟨.bl k,H,I,rfl,q⟩
theorem qei:OpR X (compareOp .Lt) (rI0 fun i j=>.bl (decide (i < j))):=qdK fun _ _ _ _ _ _ _ q=>lt_int q
theorem qej:OpR X (compareOp .LtE) (rI0 fun i j=>.bl (decide (i<=j))):=qdK fun _ _ _ _ _ _ _ q=>le_int q
theorem qek:OpR X (compareOp .Gt) (rI0 fun i j=>.bl (decide (j < i))):=qdK fun _ _ _ _ _ _ _ q=>gt_int q
theorem qel:OpR X (compareOp .GtE) (rI0 fun i j=>.bl (decide (j<=i))):=qdK fun _ _ _ _ _ _ _ q=>ge_int q
theorem Up:OpR X (compareOp .Lt) (fun x y H Q=>∃ i j,x=.str i/\y=.str j/\Q (.bl (decide (i.cps.toList < j.cps.toList))) H):=by
 intro pins s σ H x y v u Q I rx ry h
 obtain ⟨i,j,rfl,rfl,q⟩:=h
 obtain ⟨t,rfl⟩:=rx
 obtain ⟨t',rfl⟩:=ry
 exact lt_str (Uo I q rfl)
theorem qav:OpR X (compareOp .IsNot) (fun x y H Q=>y=.non/\Q (.bl (!decide (x=.non))) H):=by
 intro pins s σ H x y v u Q I rx ry h
 obtain ⟨rfl,q⟩:=h
 cases ry
 refine isnot_none_gen (Uo I q ?_)
 cases x <;> first
  | (cases rx; rfl)
  | (obtain ⟨t,rfl⟩:=rx; rfl)
theorem GL (b:Expr) {op:CmpOp} (h:op≠.In:=by decide) (h2:op≠.NotIn:=by decide):behindInMarks op b=false:=by
 have e1:(op == CmpOp.In)=false:=by cases op <;> first | rfl | exact absurd rfl h
 have e2:(op == CmpOp.NotIn)=false:=by cases op <;> first | rfl | exact absurd rfl h2
 cases b <;> simp [behindInMarks,e1,e2]
theorem qaw {op:CmpOp} {r:R2} (ho:OpR X (compareOp op) r) (ha:PE X a ta) (hb:PE X b tb) (hm:behindInMarks op b=false):PE X (.Compare a [op] [b] pos) (tOp r ta tb):=by
 refine ⟨?_⟩
 intro pins s σ H Q I h
 exact wpAny_Compare1 (qef ha hb I h fun v u s2 x y H2 I2 rx ry q=>ho pins s2 σ H2 x y v u Q I2 rx ry q) hm
def qcl (t:TE):TT:=fun σ H Q=>t σ H fun x H'=>∃ k,x=.bl k/\Q k H'
theorem qax {op:CmpOp} {r:R2} (ho:OpR X (compareOp op) r) (ha:PE X a ta) (hb:PE X b tb) (hm:behindInMarks op b=false):PT X (.Compare a [op] [b] pos) (qcl (tOp r ta tb)):=by
 refine ⟨?_⟩
 intro pins s σ H Q I h
 refine wpAny_isTrue_Compare1 (thn (ha pins s σ H _ I h) fun v s1 ⟨x,H1,I1,r1,q1⟩=>thn (hb pins s1 σ H1 _ I1 q1) fun u s2 ⟨y,H2,I2,r2,q2⟩=>
  thn (ho pins s2 σ H2 x y v u _ I2 r1 r2 q2) fun c s3 ⟨z,H3,I3,r3,k,e,q3⟩=>?_) hm
 subst e
 cases r3
 exact wpAny_truthy_bool ⟨H3,I3,q3⟩
def Uq (r r':R2) (ta tb tc:TE):TE:=fun σ H Q=>ta σ H fun x H1=>tb σ H1 fun y H2=>r x y H2 fun z H3=>∃ k,z=.bl k /\
 (if k=true then tc σ H3 fun w' H4=>r' y w' H4 Q else Q (.bl false) H3)
theorem XT {op op':CmpOp} {r r':R2} (ho:OpR X (compareOp op) r) (ho':OpR X (compareOp op') r') (ha:PE X a ta) (hb:PE X b tb) (hc:PE X c tc)
  (hm:lastMarks [op,op'] [b,c]=false:=by with_unfolding_all rfl):PE X (.Compare a [op,op'] [b,c] pos) (Uq r r' ta tb tc):=by
 refine ⟨?_⟩
 intro pins s σ H Q I h
 refine Compare_chain (thn (ha pins s σ H _ I h) fun v s1 ⟨x,H1,I1,r1,q1⟩=>chain_link (thn (hb pins s1 σ H1 _ I1 q1) fun u s2 ⟨y,H2,I2,r2,q2⟩=>
  thn (ho pins s2 σ H2 x y v u _ I2 r1 r2 q2) fun d s3 ⟨z,H3,I3,r3,k,e,q3⟩=>?_)) hm
 subst e
 cases r3
 refine wpAny_truthy_bool ?_
 cases k with
 | false=>exact ite_ff ⟨.bl false,H3,I3,rfl,q3⟩
 | true=>exact ite_tt (chain_last (thn (hc pins s3 σ H3 _ I3 q3) fun w' s4 ⟨z',H4,I4,r4,q4⟩=>ho' pins s4 σ H4 y z' u w' Q I4 r2 r4 q4))
theorem XU {op op':CmpOp} {r r':R2} (ho:OpR X (compareOp op) r) (ho':OpR X (compareOp op') r') (ha:PE X a ta) (hb:PE X b tb) (hc:PE X c tc)
  (hm:lastMarks [op,op'] [b,c]=false:=by with_unfolding_all rfl):PT X (.Compare a [op,op'] [b,c] pos) (qcl (Uq r r' ta tb tc)):=by
 refine ⟨?_⟩
 intro pins s σ H Q I h
 refine isTrue_chain (thn (ha pins s σ H _ I h) fun v s1 ⟨x,H1,I1,r1,q1⟩=>test_link (thn (hb pins s1 σ H1 _ I1 q1) fun u s2 ⟨y,H2,I2,r2,q2⟩=>
  thn (ho pins s2 σ H2 x y v u _ I2 r1 r2 q2) fun d s3 ⟨z,H3,I3,r3,k,e,q3⟩=>?_)) hm
 subst e
 cases r3
 refine wpAny_truthy_bool ?_
 cases k with
 | false=>
  obtain ⟨k',e',q'⟩:=q3
  cases e'
  exact ite_ff ⟨H3,I3,q'⟩
 | true=>
  refine ite_tt (test_last (thn (hc pins s3 σ H3 _ I3 q3) fun w' s4 ⟨z',H4,I4,r4,q4⟩=>thn (ho' pins s4 σ H4 y z' u w' _ I4 r2 r4 q4) fun d' s5 ⟨z2,H5,I5,r5,k2,e2,q5⟩=>?_))
  subst e2
  cases r5
  exact wpAny_truthy_bool ⟨H5,I5,q5⟩
def qem (K:Frag) (x:V) (H:Hp) (k:Bool):Prop:=
 match x with
 | .non=>k=false
 | .bl b=>k=b
 | .int i=>k=(i != 0)
 | .str y=>y.length<=sizeLine/\k=((y.length:Int) != 0)
 | .byt y=>y.size<=sizeLine/\k=((y.size:Int) != 0)
 | .ref p=>(∃ xs,SqL K H p xs/\k=!xs.isEmpty)\/(∃ xs,SqT K H p xs/\k=!xs.isEmpty)\/∃ kvs,H p=some (.dK kvs)/\k=!kvs.isEmpty
 | _=>False
theorem Wu {κ:Type} {kvs:List (κ×V)} {vs:List (κ×Value)} (r:KV kvs vs):(!vs.isEmpty)=!kvs.isEmpty:=by
 cases r <;> rfl
theorem zS {xs:List V} {its:List Value} (r:Vals xs its):(!its.toArray.isEmpty)=!xs.isEmpty:=by
 cases r <;> simp
theorem zT:(sizeLine:Nat) < 2 ^ 63:=by rw [sizeLine_eq]; decide
theorem qcm:qfH X (fun x H Q=>∃ k,qem X.K x H k/\Q k H):=by
 intro pins s σ H x v Q I rx h
 obtain ⟨k,e,q⟩:=h
 have hl:=zT
 have hs:sizeLine=16777216:=sizeLine_eq
 cases x with
 | non=>
  cases rx
  have e':k=false:=e
  subst e'
  exact truthy_none ⟨H,I,q⟩
 | bl b=>
  cases rx
  have e':k=b:=e
  subst e'
  exact wpAny_truthy_bool ⟨H,I,q⟩
 | int i=>
  obtain ⟨t,rfl⟩:=rx
  have e':k=(i != 0):=e
  subst e'
  exact PySem.P.truthy_int ⟨H,I,q⟩
 | str y=>
  obtain ⟨t,rfl⟩:=rx
  obtain ⟨hy,e'⟩:y.length<=sizeLine/\k=((y.length:Int) != 0):=e
  subst e'
  exact PySem.P.truthy_str (by omega) ⟨H,I.tok _,q⟩
 | byt y=>
  obtain ⟨t,rfl⟩:=rx
  obtain ⟨hy,e'⟩:y.size<=sizeLine/\k=((y.size:Int) != 0):=e
  subst e'
  exact PySem.W.truthy_bytes (by omega) ⟨H,I.tok _,q⟩
 | ref p=>
  cases rx
  have e':(∃ xs,SqL X.K H p xs/\k=!xs.isEmpty)\/(∃ xs,SqT X.K H p xs/\k=!xs.isEmpty)\/∃ kvs,H p=some (.dK kvs)/\k=!kvs.isEmpty:=e
  rcases e' with ⟨xs,hx,e'⟩ | ⟨xs,hx,e'⟩ | ⟨kvs,hx,e'⟩
  ·subst e'
   obtain ⟨its,r,pl,hz⟩:=I.list hx
   have hlen:=r.length
   exact wpAny_truthy_list pl.isList (by simp only [List.size_toArray]; omega) ⟨H,I.tok _,by rw [zS r]; exact q⟩
  ·subst e'
   obtain ⟨its,r,pl,hz⟩:=I.tuple hx
   have hlen:=r.length
   exact truthy_tuple pl (by simp only [List.size_toArray]; omega) ⟨H,I.tok _,by rw [zS r]; exact q⟩
  ·subst e'
   obtain ⟨hz,hS,vs,r,m⟩:kvs.length<=sizeLine/\(p == sysModules)=false/\∃ vs,KV kvs vs/\s.heap.DictOf (qS X.prog X.w) p vs:=I.hok p _ hx
   have hlen:kvs.length=vs.length:=Paired.length r
   exact wpAny_truthy_dict hS m (by omega) ⟨H,I.tok _,by rw [Wu r]; exact q⟩
 | _=>exact (show False from e).elim
theorem XV (ha:PE X a ta) (he:∀ whole,isTrue a X.env whole=(do let v <-whole; standAt a.pos; holding [v] (truthy v))) :
  PT X a (fun σ H Q=>ta σ H fun x H'=>∃ k,qem X.K x H' k/\Q k H'):=by
 refine ⟨?_⟩
 intro pins s σ H Q I h
 exact isTrue_plain (thn (ha pins s σ H _ I h) fun v s1 ⟨x,H1,I1,r1,q1⟩=>qcm pins s1 σ H1 x v Q I1 r1 q1) (he _)
theorem Wv:OpR X (binaryOp .Add) (fun x y H Q=>∃ i j,x=.str i/\y=.str j/\i.length+j.length<=sizeLine/\Q (.str (i++j)) H):=by
 intro pins s σ H x y v u Q I rx ry h
 obtain ⟨i,j,rfl,rfl,hz,q⟩:=h
 obtain ⟨t,rfl⟩:=rx
 obtain ⟨t',rfl⟩:=ry
 exact add_str (fun t' tk=>⟨.str (i++j),H,I.tok _,⟨_,rfl⟩,q⟩) hz
theorem wZ {x:V} {us:List Value} (r:Vals [x] us):∃ u,us=[u]/\RelV x u:=by
 cases r with
 | cons r1 r2=>cases r2; exact ⟨_,rfl,r1⟩
theorem qay {x y:V} {us:List Value} (r:Vals [x,y] us):∃ u w',us=[u,w']/\RelV x u/\RelV y w':=by
 cases r with
 | cons r1 r2=>
  cases r2 with
  | cons r3 r4=>cases r4; exact ⟨_,_,rfl,r1,r3⟩
theorem Ur (hc:X.calm=true):wS X (.builtin "max") (fun xs H Q=>∃ i j,xs=[.int i,.int j]/\Q (.int (if j > i then j else i)) H):=by
 intro pins s σ H xs us Q I r h
 obtain ⟨i,j,rfl,q⟩:=h
 obtain ⟨u,w',rfl,⟨t,rfl⟩,⟨t',rfl⟩⟩:=qay r
 refine max_two_ints (I.ok.hd hc) fun h' tk k=>⟨_,H,I.kept k,?_,q⟩
 by_cases hj:j > i
 ·rw [if_pos hj,if_pos hj]; exact ⟨_,rfl⟩
 ·rw [if_neg hj,if_neg hj]; exact ⟨_,rfl⟩
theorem Us (hc:X.calm=true):wS X (.builtin "min") (fun xs H Q=>∃ i j,xs=[.int i,.int j]/\Q (.int (if j < i then j else i)) H):=by
 intro pins s σ H xs us Q I r h
 obtain ⟨i,j,rfl,q⟩:=h
 obtain ⟨u,w',rfl,⟨t,rfl⟩,⟨t',rfl⟩⟩:=qay r
 refine min_two_ints (I.ok.hd hc) fun h' tk k=>⟨_,H,I.kept k,?_,q⟩
 by_cases hj:j < i
 ·rw [if_pos hj,if_pos hj]; exact ⟨_,rfl⟩
 ·rw [if_neg hj,if_neg hj]; exact ⟨_,rfl⟩
def qfI (K:Frag) (x:V) (H:Hp) (n:Nat):Prop:=
 match x with
 | .str y=>y.length<=sizeLine/\n=y.length
 | .byt y=>y.size<=sizeLine/\n=y.size
 | .ref p=>(∃ xs,SqL K H p xs/\n=xs.length)\/∃ xs,SqT K H p xs/\n=xs.length
 | _=>False
theorem gn:wS X (.builtin "len") (fun xs H Q=>∃ x n,xs=[x]/\qfI X.K x H n/\Q (.int n) H):=by
 intro pins s σ H xs us Q I r h
 obtain ⟨x,n,rfl,e,q⟩:=h
 obtain ⟨u,rfl,rx⟩:=wZ r
 have hl:=zT
 have hs:sizeLine=16777216:=sizeLine_eq
 cases x with
 | str y=>
  obtain ⟨t,rfl⟩:=rx
  obtain ⟨hy,e'⟩:y.length<=sizeLine/\n=y.length:=e
  subst e'
  exact len_str (by omega) ⟨.int _,H,I.tok _,⟨_,rfl⟩,q⟩
 | byt y=>
  obtain ⟨t,rfl⟩:=rx
  obtain ⟨hy,e'⟩:y.size<=sizeLine/\n=y.size:=e
  subst e'
  exact PySem.W.len_bytes (by omega) ⟨.int _,H,I.tok _,⟨_,rfl⟩,q⟩
 | ref p=>
  cases rx
  have e':(∃ xs,SqL X.K H p xs/\n=xs.length)\/∃ xs,SqT X.K H p xs/\n=xs.length:=e
  rcases e' with ⟨xs,hx,e'⟩ | ⟨xs,hx,e'⟩
  ·subst e'
   obtain ⟨its,r',pl,hz⟩:=I.list hx
   have hlen:=r'.length
   exact Calls.call_len_list pl.isList (by simp only [List.size_toArray]; omega) ⟨.int xs.length,H,I.tok _,⟨_,by simp only [List.size_toArray]; rw [hlen]⟩,q⟩
  ·subst e'
   obtain ⟨its,r',pl,hz⟩:=I.tuple hx
   have hlen:=r'.length
   exact len_tuple pl (by simp only [List.size_toArray]; omega) ⟨.int xs.length,H,I.tok _,⟨_,by simp only [List.size_toArray]; rw [hlen]⟩,q⟩
 | _=>exact (show False from e).elim
end
structure ObjM (h:Heap) (x dx C:Addr) (mA:Str->Option Value):Prop where
 obj:h.get? x=some (PySem.W.instObj C dx)
 ns:h.Ns1 dx mA
 ne:dx≠x
theorem Ut {h:Heap} {dx:Addr} {mA:Str->Option Value} (n:h.Ns1 dx mA):∃ od,h.get? dx=some od/\∀ name,PySem.W.lookIn name od=some (mA name):=by
 obtain ⟨o,es,ep,ho,hd,hk,_,hm⟩:=n
 refine ⟨o,ho,fun name=>?_⟩
 have e:=hm name
 unfold nsFind findBy at e
 rw [<-Array.find?_toList] at e
 unfold PySem.W.lookIn
 rw [hd]
 dsimp only
 split
 ·rename_i y q
  rw [q] at e
  exact congrArg some e
 ·rename_i q
  rw [q] at e
  have a:es.toList.any (·.refKey)=false:=by
   rw [List.any_eq_false]
   intro y hy
   obtain ⟨z,t,hkey⟩:=hk y (Array.mem_toList_iff.mp hy)
   simp [DictEntry.refKey,hkey]
  have a':¬es.toList.any (·.refKey)=true:=by rw [a]; exact Bool.false_ne_true
  rw [if_neg a']
  exact congrArg some e
theorem ObjM.look {h:Heap} {x dx C:Addr} {mA:Str->Option Value} (I:ObjM h x dx C mA):∃ od,PySem.W.InstAt h x (PySem.W.instObj C dx) C (some od)/\∀ name,PySem.W.lookIn name od=some (mA name):=
 let ⟨od,ho,hl⟩:=Ut I.ns
 ⟨od,⟨I.obj,rfl,rfl,ho⟩,hl⟩
theorem RelO.some_of {v:V} {o:Option Value} (r:RelO (some v) o):∃ u,o=some u/\RelV v u:=by
 cases o with
 | none=>exact (show False from r).elim
 | some u=>exact ⟨u,rfl,r⟩
section
variable {X:Cx} {pins:List (Addr×Obj)} {σ:St} {H:Hp} {s:Shared} {a C dx:Addr} {fs:List (Str×V)} {f:Str} {v:V} {A:Around} {E:Value->Shared->Prop}
theorem Inv.made (I:Inv X pins σ H s):Inv X pins σ (upd (upd H s.heap.objs.size (.own (s.heap.objs.size+1))) (s.heap.objs.size+1) (.ins C s.heap.objs.size []))
  { s with heap:=(s.heap.push PySem.W.emptyDict).push (PySem.W.instObj C s.heap.objs.size) }:=by
 have e1:(s.heap.push PySem.W.emptyDict).get? s.heap.objs.size=some PySem.W.emptyDict:=Heap.get?_push_size s.heap rfl
 have e2:((s.heap.push PySem.W.emptyDict).push (PySem.W.instObj C s.heap.objs.size)).get? (s.heap.objs.size+1)=some (PySem.W.instObj C s.heap.objs.size):=by
  have:=Heap.get?_push_size (s.heap.push PySem.W.emptyDict) (o:=PySem.W.instObj C s.heap.objs.size) rfl
  rwa [Heap.size_push] at this
 have e3:(s.heap.push PySem.W.emptyDict).Ns s.heap.objs.size (fun _=>none):=⟨PySem.W.emptyDict,#[],_,e1,rfl,(fun e he=>absurd he (by simp)),fun _=>rfl⟩
 have I1:=I.laid (a:=s.heap.objs.size) (o:=.own (s.heap.objs.size+1)) (h':=s.heap.push PySem.W.emptyDict) (t':=s.toks) (fun b u q=>Heap.get?_push_of_some _ q) (Nat.le_refl _) ⟨_,e1⟩
 refine I1.laid (a:=s.heap.objs.size+1) (o:=.ins C s.heap.objs.size []) (t':=s.toks) (fun b u q=>Heap.get?_push_of_some _ q) (Nat.le_of_eq (Heap.size_push _ _)) ?_
 have ne:s.heap.objs.size≠s.heap.objs.size+1:=Nat.ne_of_lt (Nat.lt_succ_self _)
 refine ⟨by rw [qA ne,qo],Nat.zero_le _,ne,e2,fun _=>none,(Heap.Ns1.of_empty e3).at fun o q=>Heap.get?_push_of_some _ q,fun _=>True.intro,fun y hy=>absurd rfl hy⟩
end
structure Room (k:Nat) (A:Around):Prop where
 hd:A.handled=none
 dp:A.depth+3 * k+5 < recursionLimit
 un:A.units+16 * k+200 < cLine
theorem Room.mono {j k:Nat} {A:Around} (r:Room k A) (h:j<=k):Room j A:=⟨r.hd,by have:=r.dp; omega,by have:=r.un; omega⟩
theorem Room.deeper {k:Nat} {A:Around} (r:Room (k+1) A) (env:Env):Room k (A.deeper env):=
 ⟨r.hd,by have:=r.dp; show A.depth+1+3 * k+5 < _; omega,by have:=r.un; show A.units+3+16 * k+200 < _; omega⟩
theorem Room.in1 {k:Nat} {A:Around} (r:Room (k+1) A):Room k A.in1:=
 ⟨r.hd,by have:=r.dp; show A.depth+3 * k+5 < _; omega,by have:=r.un; show A.units+1+16 * k+200 < _; omega⟩
theorem Room.depth {k:Nat} {A:Around} (r:Room k A):A.depth < recursionLimit:=by have:=r.dp; omega
theorem Room.units {k:Nat} {A:Around} (r:Room k A):A.units+64 < cLine:=by have:=r.un; omega
def qen:TA:=fun _ H Q=>Q [] H
def XW (ta:TE) (tr:TA):TA:=fun σ H Q=>ta σ H fun x H1=>tr σ H1 fun xs H2=>Q (x::xs) H2
section
variable {X:Cx} {e:Expr} {es:List Expr} {te:TE} {t:TA} {pos:Pos}
theorem jM:PA X [] qen:=⟨fun _ _ _ _ H Q I h=>Calls.spliced_nil ⟨[],H,I,.nil,h⟩⟩
theorem qY (ha:PE X e te) (hr:PA X es t) (hs:starEach (e::es) X.env=(false,eval e X.env)::starEach es X.env:=by rfl):PA X (e::es) (XW te t):=by
 refine ⟨?_⟩
 intro pos pins s σ H Q I h
 rw [hs]
 show wpAny _ _ (spliced ((false,eval e X.env)::backTo pos (starEach es X.env))) _ _ s
 refine Calls.spliced_cons (thn (ha pins s σ H _ I h) fun u s1 ⟨x,H1,I1,r1,q1⟩=>?_)
 exact thn (hr pos pins s1 σ H1 _ I1 q1) fun us s2 ⟨xs,H2,I2,r2,q2⟩=>⟨x::xs,H2,I2,.cons r1 r2,q2⟩
def qfJ (t:TA):TE:=fun σ H Q=>t σ H fun xs H1=>xs.length<=sizeLine/\∀ p,H1 p=none->Q (.ref p) (upd H1 p (.tup xs))
def qfK (t:TA):TE:=fun σ H Q=>t σ H fun xs H1=>xs.length<=sizeLine/\∀ p,H1 p=none->Q (.ref p) (upd H1 p (.lst xs))
theorem qcn {x1} (h:PA X es t):PE X (.Tuple es x1 pos) (qfJ t):=by
 refine ⟨?_⟩
 intro pins s σ H Q I hq
 refine wpAny_Tuple_spliced (thn (h pos pins s σ H _ I hq) fun us s1 ⟨xs,H1,I1,r,z,q⟩=>⟨by rw [<-r.length]; exact z,?_⟩)
 have hf:H1 s1.heap.objs.size=none:=I1.hok.fresh (Nat.le_refl _)
 refine ⟨.ref s1.heap.objs.size,upd H1 s1.heap.objs.size (.tup xs),I1.laid (t':=s1.toks) (fun b u e=>Heap.get?_push_of_some _ e) (Nat.le_refl _) ?_,rfl,q _ hf⟩
 exact ⟨⟨z,_,Heap.get?_push_size _ rfl,rfl⟩,us,r,⟨_,Heap.get?_push_size _ rfl,rfl,_,rfl⟩⟩
theorem qco (h:PA X es t):PE X (.List es pos) (qfK t):=by
 refine ⟨?_⟩
 intro pins s σ H Q I hq
 refine wpAny_List_spliced (thn (h pos pins s σ H _ I hq) fun us s1 ⟨xs,H1,I1,r,z,q⟩=>⟨by rw [<-r.length]; exact z,?_⟩)
 have hf:H1 s1.heap.objs.size=none:=I1.hok.fresh (Nat.le_refl _)
 refine ⟨.ref s1.heap.objs.size,upd H1 s1.heap.objs.size (.lst xs),I1.laid (t':=s1.toks) (fun b u e=>Heap.get?_push_of_some _ e) (Nat.le_refl _) ?_,rfl,q _ hf⟩
 exact ⟨z,us,0,r,Heap.get?_push_size _ rfl⟩
end
abbrev Sp:=List V->Hp->VK->XK->Prop
abbrev CXT:=List Env->Hp->Shared->XK->Value->Shared->Prop
structure Env0 (P:Program) (w:World) (K:Frag) (mg:Str->Option Value) (base:Heap) (A:Around) (outer:List Env) (s:Shared) (H:Hp):Prop where
 frames:A.frames=some outer
 mod:Mod K mg base
 bs:∀ b o,base.get? b=some o->s.heap.get? b=some o/\H b=none
 bsz:base.objs.size<=s.heap.objs.size
 funs:s.heap.FunFrames base outer
 frf:∀ b∈frs outer,H b=none
 hok:HOk P w H s.heap
 bare:AllBare s.gens
def CE (outer:List Env) (P:Program) (w:World) (H:Hp) (s:Shared) (Q:VK) (u:Value) (s':Shared):Prop:=
 ∃ v H',s'.os=s.os/\AllBare s'.gens/\Un (frs outer) [] H H' s.heap s'.heap/\HOk P w H' s'.heap/\RelV v u/\Q v H'
def CR (CX:CXT) (outer:List Env) (P:Program) (w:World) (H:Hp) (s:Shared) (Q:VK) (E:XK) (r:Result) (s':Shared):Prop:=
 match r with
 | .ok (.ret u)=>CE outer P w H s Q u s'
 | .ok _=>False
 | .error e=>CX outer H s E e s'
structure FnOk (P:Program) (w:World) (K:Frag) (mg:Str->Option Value) (base:Heap) (CX:CXT) (k:Nat) (f:Addr) (fd:FuncData) (ps:List Str) (sp:Sp):Prop where
 len:∀ vs H Q E,sp vs H Q E->vs.length=ps.length
 run:∀ (A:Around) (outer:List Env) (s:Shared) (H:Hp) (args:Args) (us:List Value) (vs:List V) (Q:VK) (E:XK),Room k A->Env0 P w K mg base A outer s H->BindsTo s fd args (ps.zip us)->Vals vs us->sp vs H Q E ->
  codeAny (model P w) A (.call (.ref f) args) (CR CX outer P w H s Q E) s
theorem FnOk.imp {P:Program} {w:World} {K:Frag} {mg:Str->Option Value} {base:Heap} {CX:CXT} {k:Nat} {f:Addr} {fd:FuncData} {ps:List Str} {sp sp':Sp} (F:FnOk P w K mg base CX k f fd ps sp)
  (h:∀ vs H Q E,sp' vs H Q E->sp vs H Q E):FnOk P w K mg base CX k f fd ps sp':=
 ⟨fun vs H Q E q=>F.len vs H Q E (h _ _ _ _ q),fun A outer s H args us vs Q E hr he hb hv hs=>F.run A outer s H args us vs Q E hr he hb hv (h _ _ _ _ hs)⟩
theorem Env0.in1 {P:Program} {w:World} {K:Frag} {mg:Str->Option Value} {base:Heap} {A:Around} {outer:List Env} {s:Shared} {H:Hp} (e:Env0 P w K mg base A outer s H) :
  Env0 P w K mg base A.in1 outer s H:=⟨e.frames,e.mod,e.bs,e.bsz,e.funs,e.frf,e.hok,e.bare⟩
section
variable {X:Cx} {pins:List (Addr×Obj)} {σ:St} {H:Hp} {s s':Shared}
theorem Inv.env0 (I:Inv X pins σ H s):Env0 X.prog X.w X.K X.mg X.base X.A X.stack s H:=
 ⟨I.ok.frames,I.ok.mod,I.bs,Nat.le_trans I.ok.bsz I.sz,I.stack,I.stkFree,I.hok,I.bare⟩
theorem Inv.after {Q:VK} {u:Value} (I:Inv X pins σ H s) (h:CE X.stack X.prog X.w H s Q u s'):EP X pins σ Q u s':=by
 obtain ⟨v,H',os,bare,un,hok,r,q⟩:=h
 obtain ⟨hh,g,d,t,os'⟩:=s'
 obtain rfl:os'=s.os:=os
 exact ⟨v,H',I.call (h':=hh) (g':=g) (d':=d) (t':=t) (ch:=[]) un hok bare (fun b z=>absurd z (by simp)),r,q⟩
end
def qeo (sp:Sp) (dvs:List V) (E:XK) (t:TA):TE:=fun σ H Q=>t σ H fun vs H1=>sp (vs++dvs) H1 Q E
def Binds (K:Frag) (fd:FuncData) (ps:List Str) (ds:List Value):Prop:=
 ∀ (s:Shared) (us:List Value),K.In s.heap->(us++ds).length=ps.length->BindsTo s fd ⟨us,[]⟩ (ps.zip (us++ds))
theorem Binds.all {K:Frag} {fd:FuncData} {ps:List Str} (h:∀ us:List Value,us.length=ps.length->bindArgs fd ⟨us,[]⟩=pure (ps.zip us)):Binds K fd ps []:=fun s us _ hl=>by
 rw [List.append_nil] at hl ⊢
 exact .of_eq (h us hl)
def zU (CX:CXT) (X:Cx) (E:XK):Prop:=∀ (pins:List (Addr×Obj)) (σ:St) (H:Hp) (s:Shared) (e:Value) (s':Shared),Inv X pins σ H s->CX X.stack H s E e s'->X.xe e s'
section
variable {X:Cx} {CX:CXT} {k:Nat} {f C:Addr} {fd:FuncData} {ps:List Str} {sp:Sp} {dvs:List V} {ds:List Value} {E:XK} {x m:Str} {p pos apos:Pos} {e o:Expr} {es:List Expr} {ta:TE} {t:TA}
theorem qcp {pins:List (Addr×Obj)} {σ:St} {H:Hp} {s:Shared} {Q:VK} {us:List Value} {vs:List V} (F:FnOk X.prog X.w X.K X.mg X.base CX k f fd ps sp) (hr:Room k X.A) (hb:Binds X.K fd ps ds) (hd:Vals dvs ds) (hx:zU CX X E)
  (I:Inv X pins σ H s) (r:Vals vs us) (h:sp (vs++dvs) H Q E):wpAny (model X.prog X.w) X.A (call (.ref f) us) (EP X pins σ Q) X.xe s:=by
 have r2:Vals (vs++dvs) (us++ds):=r.append hd
 have hl:(us++ds).length=ps.length:=by rw [<-r2.length]; exact F.len _ _ _ _ h
 refine wpAny_call (codeAny_mono (F.run X.A X.stack s H ⟨us,[]⟩ (us++ds) (vs++dvs) Q E hr I.env0 (hb s us I.kIn hl) r2 h) fun r s' hq=>?_)
 cases r with
 | error e=>exact hx pins σ H s e s' I hq
 | ok fl=>
  cases fl with
  | ret u=>exact I.after hq
  | next=>exact False.elim hq
  | brk=>exact False.elim hq
  | cont=>exact False.elim hq
theorem qaz (F:FnOk X.prog X.w X.K X.mg X.base CX k f fd ps sp) (hr:Room k X.A) (hg:Gl X x) (hm:X.mg x=some (.ref f)) (hk:keepIn X.K (.ref f)=true) (hb:Binds X.K fd ps ds) (hd:Vals dvs ds) (hx:zU CX X E)
  (ha:PA X (e::es) t) (hdb:(x == ("__debug__":Str))=false:=by decide) (he:starEach (e::es) X.env=(false,eval e X.env)::starEach es X.env:=by rfl) (hpl:(backTo pos (starEach es X.env)).any (·.1)=false:=by rfl) :
  PE X (.Call (.Name x p) (e::es) [] pos) (qeo sp dvs E t):=by
 refine ⟨?_⟩
 intro pins s σ H Q I h
 refine wpAny_Call_Name_kw (JT I hg hm ?_ hdb)
 refine PySem.W.callWith_K (h₀:=X.base) I.ok.mod.kin hk (thn (ha pos pins s σ H _ I h) fun us s1 ⟨vs,H1,I1,r,q⟩=>⟨I1.kIn,?_⟩) he hpl
 exact qcp F hr hb hd hx I1 r q
end
section
variable {X:Cx} {CX:CXT} {k:Nat} {f C:Addr} {fd:FuncData} {ps ks:List Str} {sp:Sp} {E:XK} {x m:Str} {p pos apos kpos:Pos} {e o:Expr} {es:List Expr} {kws:List Keyword} {te ta:TE} {t tk:TA} {nm:Option Str}
variable {g:List Value->List Value->List Value} {gV:List V->List V->List V}
end
structure FnScope (N P:List Str) (sc:Scope):Prop where
 kind:sc.kind=.function
 co:sc.isCoroutine=false
 gen:sc.isGenerator=false
 nd:N.Nodup
 pre:N.take P.length=P
 par:∀ x∈P,sc.names.lookup x=some .local\/sc.names.lookup x=some .cell
 nofree:∀ y∈sc.names,y.2≠.free
theorem QG {kindOf:Str->Option NameKind} {x:Str}:∀ {binds:List (Str×Value)} {m:Str->Option Value},(∀ v,(x,v)∉binds)->bindL kindOf binds m x=m x
 | [],_,_=>rfl
 | (n,v)::r,m,h=>by
  unfold bindL
  rw [QG fun w hw=>h w (List.mem_cons_of_mem _ hw)]
  split
  ·have:x≠n:=by rintro rfl; exact h v List.mem_cons_self
   simp [this]
  ·rfl
theorem QH {kindOf:Str->Option NameKind} {x:Str}:∀ {binds:List (Str×Value)} {m:Str->Option Value},(∀ v,(x,v)∉binds)->bindC kindOf binds m x=m x
 | [],_,_=>rfl
 | (n,v)::r,m,h=>by
  unfold bindC
  rw [QH fun w hw=>h w (List.mem_cons_of_mem _ hw)]
  split
  ·rfl
  ·have:x≠n:=by rintro rfl; exact h v List.mem_cons_self
   simp [this]
theorem QI {kindOf:Str->Option NameKind} {x:Str} {v:Value}:∀ {P:List Str} {vs:List Value} {i:Nat} {m:Str->Option Value},P.Nodup->P[i]?=some x->vs[i]?=some v->kindOf x=some .local ->
  bindL kindOf (P.zip vs) m x=some v
 | [],_,_,_,_,h,_,_=>by simp at h
 | _::_,[],_,_,_,_,h,_=>by simp at h
 | p::P,w::vs,0,m,nd,h1,h2,hk=>by
  simp at h1 h2; subst h1; subst h2
  show bindL kindOf ((p,w)::P.zip vs) m p=_
  unfold bindL
  rw [QG fun v hv=>(List.nodup_cons.mp nd).1 (List.of_mem_zip hv).1,if_pos hk]
  simp
 | p::P,w::vs,i+1,m,nd,h1,h2,hk=>by
  show bindL kindOf ((p,w)::P.zip vs) m x=_
  unfold bindL
  exact QI (i:=i) (List.nodup_cons.mp nd).2 (by simpa using h1) (by simpa using h2) hk
theorem QJ {kindOf:Str->Option NameKind} {x:Str} {v:Value}:∀ {P:List Str} {vs:List Value} {i:Nat} {m:Str->Option Value},P.Nodup->P[i]?=some x->vs[i]?=some v->kindOf x≠some .local ->
  bindC kindOf (P.zip vs) m x=some v
 | [],_,_,_,_,h,_,_=>by simp at h
 | _::_,[],_,_,_,_,h,_=>by simp at h
 | p::P,w::vs,0,m,nd,h1,h2,hk=>by
  simp at h1 h2; subst h1; subst h2
  show bindC kindOf ((p,w)::P.zip vs) m p=_
  unfold bindC
  rw [QH fun v hv=>(List.nodup_cons.mp nd).1 (List.of_mem_zip hv).1,if_neg hk]
  simp
 | p::P,w::vs,i+1,m,nd,h1,h2,hk=>by
  show bindC kindOf ((p,w)::P.zip vs) m x=_
  unfold bindC
  exact QJ (i:=i) (List.nodup_cons.mp nd).2 (by simpa using h1) (by simpa using h2) hk
noncomputable def ul (N:List Str) (vs:List V):St:=vs.map some++List.replicate (N.length - vs.length) none
def qaA (CX:CXT) (P:Program) (w:World) (K:Frag) (mg:Str->Option Value) (base:Heap) (N:List Str) (qual:Str) (scope:Scope) (f:Addr) (cd:Value) (A:Around) (outer:List Env) (s:Shared) (H:Hp) (E:XK):Cx where
 prog:=P
 w:=w
 K:=K
 mg:=mg
 base:=base
 A:=A.deeper (envOfC qual scope s.heap.objs.size f cd)
 N:=N
 s₀:=s
 H₀:=H
 env:=envOfC qual scope s.heap.objs.size f cd
 outer:=outer
 stack:=envOfC qual scope s.heap.objs.size f cd::outer
 ex:=[]
 calm:=true
 fn:=fun _=>true
 pn:=[]
 xe:=fun e s'=>wpAny (model P w) (A.deeper (envOfC qual scope s.heap.objs.size f cd)) (leaving (envOfC qual scope s.heap.objs.size f cd) e) (fun _ s''=>CX outer H s E e s'') (fun e' s''=>CX outer H s E e' s'') s'
theorem Vi {sc:Scope} {n:Nat} {x:Str} (h:sc.names.lookup x=some .cell):∃ c,(cellsFrom n sc.names []).lookup x=some c:=by
 have q:=PySem.W.cellsFrom_some sc.names n [] (.inl h)
 exact Option.isSome_iff_exists.mp q
theorem Uu {CX:CXT} {P:Program} {w:World} {K:Frag} {mg:Str->Option Value} {base:Heap} {N ps:List Str} {qual:Str} {scope:Scope} {f:Addr} {cd:Value} {A:Around} {outer:List Env} {s s1:Shared} {H:Hp} {E:XK} {us:List Value} {vs:List V}
  (S:FnScope N ps scope) (hd:A.handled=none) (e0:Env0 P w K mg base A outer s H) (hl:vs.length=ps.length) (r:Vals vs us)
  (x:InCallC s s.heap.objs.size (bindL (envOfC qual scope s.heap.objs.size f cd).kindOf (ps.zip us) fun _=>none) (cellsFrom (s.heap.objs.size+1) scope.names []) (bindC (envOfC qual scope s.heap.objs.size f cd).kindOf (ps.zip us) fun _=>none) s1) :
  Inv (qaA CX P w K mg base N qual scope f cd A outer s H E) [] (ul N vs) H s1:=by
 have hpl:ps.length<=N.length:=by have:=congrArg List.length S.pre; rw [List.length_take] at this; omega
 obtain ⟨h1,tk,rfl,hk⟩:=x.done
 have noA:∀ b:Addr,b∉(qaA CX P w K mg base N qual scope f cd A outer s H E).ex:=fun b z=>absurd (show b∈([]:List Addr) from z) (by simp)
 refine ⟨⟨e0.mod,S.kind,rfl,rfl,Nat.le_refl _,fun y z c h1 h2=>?_,fun y hy=>?_,fun y c _ h=>?_,fun _=>hd,Around.frames_deeper e0.frames,.inr ⟨rfl,rfl⟩,fun b z=>absurd z (noA b),e0.bs,e0.bsz,fun b _ _=>noA b,fun b z=>absurd z (noA b),e0.funs,e0.frf⟩,
  rfl,e0.bare,Un.kept hk,⟨_,x.toInCall.ns,fun i y v h1 h2 h3=>?_⟩,fun y c h=>⟨_,x.cell y c h⟩,e0.hok.fresh (Nat.le_refl _),fun y c h=>?_,fun p hp=>absurd (show p∈([]:List (Addr×Obj)) from hp) (by simp),e0.hok.kept hk,?_⟩
 ·exact name_of_addr x.apart (PySem.mem_of_lookup h1) (PySem.mem_of_lookup h2)
 ·have hy:scope.names.lookup y=some .cell\/scope.names.lookup y=some .free:=hy
  rcases hy with hy | hy
  ·exact Vi hy
  ·exact absurd rfl (S.nofree _ (PySem.mem_of_lookup hy))
 ·exact Nat.le_of_lt (x.above y c (PySem.mem_of_lookup h))
 ·have hi:i < vs.length:=by
   unfold ul at h2
   by_cases hi:i < vs.length
   ·exact hi
   ·rw [List.getElem?_append_right (by simpa using hi)] at h2
    rw [List.getElem?_replicate] at h2
    split at h2 <;> cases h2
  have ha:vs[i]?=some v:=by
   unfold ul at h2
   rw [List.getElem?_append_left (by simpa using hi),List.getElem?_map] at h2
   cases e:vs[i]? with
   | none=>rw [e] at h2; cases h2
   | some a=>rw [e] at h2; cases h2; rfl
  obtain ⟨u,hu,rv⟩:=r.get ha
  have hp:ps[i]?=some y:=by
   rw [<-S.pre,List.getElem?_take_of_lt (by omega)]; exact h1
  have ndP:ps.Nodup:=by rw [<-S.pre]; exact S.nd.sublist (List.take_sublist _ _)
  refine ⟨u,rv,?_⟩
  rcases S.par y (List.mem_of_getElem? hp) with k | k
  ·exact .inl ⟨k,QI ndP hp hu k⟩
  ·obtain ⟨c,e⟩:=Vi (n:=s.heap.objs.size+1) k
   refine .inr ⟨.inl k,c,e,?_⟩
   have q:=x.cell y c e
   rw [QJ ndP hp hu (by show scope.names.lookup y≠_; rw [k]; decide)] at q
   exact q
 ·exact e0.hok.fresh (Nat.le_of_lt (x.above y c (PySem.mem_of_lookup h)))
 ·unfold ul
  show _=N.length
  rw [List.length_append,List.length_map,List.length_replicate]
  omega
theorem qep {CX:CXT} {P:Program} {w:World} {K:Frag} {mg:Str->Option Value} {base:Heap} {k:Nat} {f:Addr} {name qual:Str} {params:Arguments} {body:List Stmt} {scope:Scope} {dV kV doc pm cdv ct oc:Value} {an od:Option Addr}
  {osl:Array (Option Value)} {N ps:List Str} {sp:Sp} (lk:K.lookup f=some ⟨oc,od,.func (PySem.W.fnOf name qual params body scope dV kV doc pm an cdv ct),osl⟩) (hcd:codeIn K cdv qual=true) (S:FnScope N ps scope)
  (len:∀ vs H Q E,sp vs H Q E->vs.length=ps.length)
  (hbody:∀ (A:Around) (outer:List Env) (s:Shared) (H:Hp) (vs:List V) (Q:VK) (E:XK),Room k (A.deeper (envOfC qual scope s.heap.objs.size f cdv))->sp vs H Q E ->
   ∃ t,PSs (qaA CX P w K mg base N qual scope f cdv A outer s H E) body t/\t { nx:=fun _ H'=>Q .non H',rt:=Q } (ul N vs) H) :
  FnOk P w K mg base CX (k+1) f (PySem.W.fnOf name qual params body scope dV kV doc pm an cdv ct) ps sp:=by
 refine ⟨len,fun A outer s H args us vs Q E hr e0 hb r hsp=>?_⟩
 have hl:=len _ _ _ _ hsp
 have KX:K.In s.heap:=e0.mod.kin.keeps fun b o e=>(e0.bs b o e).1
 have lim:s.heap.NoLimit:=e0.mod.nolimit.keeps fun b o e=>(e0.bs b o e).1
 have hkind:∀ y∈ps.zip us,scope.names.lookup y.1=some .local\/(scope.names.lookup y.1=some .cell/\((cellsFrom (s.heap.objs.size+1) scope.names []).lookup y.1).isSome=true):=fun ⟨n,v⟩ hy=>by
  rcases S.par n (List.of_mem_zip hy).1 with q | q
  ·exact .inl q
  ·exact .inr ⟨q,PySem.W.cellsFrom_some _ _ _ (.inl q)⟩
 refine codeAny_call_function hr.depth (KX _ _ lk) rfl S.co S.gen rfl (PySem.W.codeRec_of KX hcd) (hb _ _ _ _ ?_)
 refine wpAny_newFunctionEnv_cells S.kind hkind fun env he s1 x=>?_
 subst he
 refine ⟨lim.keeps x.toInCall.keep,codeAny_func ?_⟩
 obtain ⟨t,ht,hq⟩:=hbody A outer s H vs Q E (hr.deeper _) hsp
 have I:Inv (qaA CX P w K mg base N qual scope f cdv A outer s H E) [] (ul N vs) H s1:=Uu S hr.hd e0 hl r x
 refine wpAny_mono (ht [] s1 (ul N vs) H _ I hq) (fun fl s' hs=>?_) fun e s' hs=>hs
 have fin:∀ {σ':St} {H':Hp} {v:V} {u:Value},Inv (qaA CX P w K mg base N qual scope f cdv A outer s H E) [] σ' H' s'->RelV v u->Q v H'->CE outer P w H s Q u s':=
  fun {σ' H' v u} J rv q=>⟨v,H',J.os,J.bare,J.base,J.hok,rv,q⟩
 cases fl with
 | ret u=>
  obtain ⟨v,σ',H',J,rv,q⟩:=hs
  exact fin J rv q
 | next=>
  obtain ⟨σ',H',J,q⟩:=hs
  exact fin (v:=V.non) (u:=Value.none) J rfl q
 | brk=>
  obtain ⟨_,_,_,q⟩:=hs
  exact False.elim q
 | cont=>
  obtain ⟨_,_,_,q⟩:=hs
  exact False.elim q
section
variable {X:Cx} {x:Str} {p pos:Pos} {e:Expr} {es:List Expr} {t:TA} {id T:String} {r:List V->Hp->VK->Prop}
def tCB (r:List V->Hp->VK->Prop) (t:TA):TE:=fun σ H Q=>t σ H fun vs H1=>r vs H1 Q
theorem um (hc:wS X (.builtin id) r) (hg:Gl X x) (hm:X.mg x=none) (hv:bootBuiltins x=some (.builtin id)) (ha:PA X (e::es) t) (hn:x ≠ "__name__":=by decide) (hdb:(x == ("__debug__":Str))=false:=by decide)
  (he:starEach (e::es) X.env=(false,eval e X.env)::starEach es X.env:=by rfl) (hpl:(backTo pos (starEach es X.env)).any (·.1)=false:=by rfl):PE X (.Call (.Name x p) (e::es) [] pos) (tCB r t):=by
 refine ⟨?_⟩
 intro pins s σ H Q I h
 refine wpAny_Call_Name_kw (xx I hg hm hv ?_ hn hdb)
 exact PyProof.Rows.callWith_builtin1 (thn (ha pos pins s σ H _ I h) fun us s1 ⟨vs,H1,I1,r1,q1⟩=>hc pins s1 σ H1 vs us Q I1 r1 q1) he hpl
theorem wb (hc:wS X (.type T) r) (hg:Gl X x) (hm:X.mg x=none) (hv:bootBuiltins x=some (.type T)) (ha:PA X (e::es) t) (hn:x ≠ "__name__":=by decide) (hdb:(x == ("__debug__":Str))=false:=by decide)
  (he:starEach (e::es) X.env=(false,eval e X.env)::starEach es X.env:=by rfl) (hpl:(backTo pos (starEach es X.env)).any (·.1)=false:=by rfl):PE X (.Call (.Name x p) (e::es) [] pos) (tCB r t):=by
 refine ⟨?_⟩
 intro pins s σ H Q I h
 refine wpAny_Call_Name_kw (xx I hg hm hv ?_ hn hdb)
 exact PyProof.Rows.callWith_type1 (thn (ha pos pins s σ H _ I h) fun us s1 ⟨vs,H1,I1,r1,q1⟩=>hc pins s1 σ H1 vs us Q I1 r1 q1) he hpl
end
end L2
namespace HT
open PySem PyProof.Rows
section
open PySem.SeqAt
open PySem.AutoSeq1 (wpAny_loadPart')
open PySem.MeetsSeq PySem.MeetsSeq2 PySem.MeetsSeq3
end
section
variable {prog:Program} {w:World} {A:Around} {E:Value->Shared->Prop} {s:Shared}
theorem cat_tup {t b:Addr} {vs ws:List Value} {Q:Value->Shared->Prop} (ht:IsTup s.heap t vs.toArray) (hb:IsTup s.heap b ws.toArray) (hv:vs≠[])
  (h1:ws=[]->Q (.ref t) s) (h2:ws≠[]->Q (.ref s.heap.objs.size) { s with heap:=s.heap.push { cls:=.type "tuple",data:=.seq (vs++ws).toArray } })
  (hsz:vs.length+ws.length<=sizeLine):wpAny (model prog w) A (binaryOp .Add (.ref t) (.ref b)) Q E s:=by
 obtain ⟨⟨cls,dd,data,sl⟩,ho,hc,n,hd⟩:=id ht
 obtain ⟨⟨cls2,dd2,data2,sl2⟩,ho2,hc2,n2,hd2⟩:=id hb
 simp only at hc hd hc2 hd2
 subst hc hd hc2 hd2
 have e:vs.toArray++ws.toArray=(vs++ws).toArray:=by simp
 by_cases hw:ws=[]
 ·exact concat_meets ⟨_,ho,rfl⟩ ⟨_,ho2,rfl⟩ noFill_tuple_add seq_tuple_add PySem.F.slot_tuple_add PySem.F.entry_tuple_add (PySem.F.args_tuple_add_2 _ _)
   (tuple_addW1 t b vs.toArray ws.toArray n n2 dd dd2 sl sl2 (by simpa using hv) (by simp [hw])) ⟨ho,ho2,h1 hw⟩
 ·refine concat_meets ⟨_,ho,rfl⟩ ⟨_,ho2,rfl⟩ noFill_tuple_add seq_tuple_add PySem.F.slot_tuple_add PySem.F.entry_tuple_add (PySem.F.args_tuple_add_2 _ _)
   (tuple_addW2 t b vs.toArray ws.toArray n n2 dd dd2 sl sl2 (by simpa using hv) (by simpa using hw) (by rw [List.size_toArray,List.size_toArray]; exact hsz)) ⟨ho,ho2,?_⟩
  rw [e]
  exact h2 hw
theorem slicePart_ {v:Value} {o:Option Int} {Q:Option Int->Shared->Prop} (p:IsPart v o) (h:Q o s):wpAny (model prog w) A (Builtin.Slice.slicePartIndex v) Q E s:=by
 cases p with
 | none=>exact slicePart_none h
 | int i t=>exact slicePart_int h
end
end HT
namespace L2
open PySem PySem.Spec PyProof.Rows
abbrev TO:=St->Hp->(Option Int->Hp->Prop)->Prop
def PO (X:Cx) (e:Option Expr) (t:TO):Prop:=
 ∀ (pins:List (Addr×Obj)) (s:Shared) (σ:St) (H:Hp) (Q:Option Int->Hp->Prop),Inv X pins σ H s->t σ H Q ->
  wpAny (model X.prog X.w) X.A (evalPart e X.env) (fun u s'=>∃ o H',Inv X pins σ H' s'/\IsPart u o/\Q o H') X.xe s
def qaB:TO:=fun _ H Q=>Q none H
def qeq (t:TE):TO:=fun σ H Q=>t σ H fun x H1=>∃ i,x=.int i/\Q (some i) H1
section
variable {X:Cx} {e:Expr} {te:TE} {lo hi:Option Expr} {tl th:TO} {pos p2:Pos}
theorem qaC:PO X none qaB:=by
 intro pins s σ H Q I h
 rw [evalPart_none]
 exact wpAny_pure ⟨none,H,I,.none,h⟩
theorem qaD (h:PE X e te):PO X (some e) (qeq te):=by
 intro pins s σ H Q I hw
 rw [evalPart_some]
 refine thn (h pins s σ H _ I hw) fun u s1 ⟨x,H1,I1,r1,q1⟩=>?_
 obtain ⟨i,rfl,q⟩:=q1
 obtain ⟨t,rfl⟩:=r1
 exact ⟨some i,H1,I1,.int i t,q⟩
def qer (K:Frag):R2:=fun x y H Q=>∃ a b xs ys,x=.ref a/\y=.ref b/\SqT K H a xs/\SqT K H b ys/\xs≠[]/\xs.length+ys.length<=sizeLine /\
 (ys=[]->Q (.ref a) H)/\(ys≠[]->∀ p,H p=none->Q (.ref p) (upd H p (.tup (xs++ys))))
theorem Vals.nil_iff {xs:List V} {us:List Value} (r:Vals xs us):us=[]↔xs=[]:=by
 cases r with
 | nil=>simp
 | cons _ _=>simp
theorem qaE:OpR X (binaryOp .Add) (qer X.K):=by
 intro pins s σ H x y v u Q I rx ry h
 obtain ⟨a,b,xs,ys,rfl,rfl,ha,hb,hx,hz,q1,q2⟩:=h
 cases rx
 cases ry
 obtain ⟨its,r1,p1,_⟩:=I.tuple ha
 obtain ⟨its2,r2,p2,_⟩:=I.tuple hb
 refine HT.cat_tup p1 p2 (fun z=>hx (r1.nil_iff.mp z)) (fun z=>⟨.ref a,H,I,rfl,q1 (r2.nil_iff.mp z)⟩) (fun z=>?_) (by rw [<-r1.length,<-r2.length]; exact hz)
 refine ⟨.ref s.heap.objs.size,_,I.laid (t':=s.toks) (o:=.tup (xs++ys)) (fun b ob q=>Heap.get?_push_of_some _ q) (Nat.le_refl _) ?_,rfl,q2 (fun w=>z (r2.nil_iff.mpr w)) _ (I.hok.fresh (Nat.le_refl _))⟩
 exact ⟨⟨by rw [List.length_append]; exact hz,_,Heap.get?_push_size _ rfl,rfl⟩,_,r1.append r2,IsTup.new _ _⟩
end
noncomputable def ixN (n:Nat) (i:Int):Option Nat:=if 0<=i then (if i < n then some i.toNat else none) else if -(n:Int)<=i then some (i+n).toNat else none
noncomputable def atI {α:Type} (xs:List α) (i:Int):Option α:=(ixN xs.length i).bind fun j=>xs[j]?
theorem Uv {n:Nat} {i:Int} {j:Nat} (h:ixN n i=some j):seqIndex? i n=some j/\j < n/\-(n:Int)<=i/\i < n:=by
 unfold ixN at h
 by_cases h0:0<=i
 ·rw [if_pos h0] at h
  by_cases h1:i < n
  ·rw [if_pos h1] at h
   have e:i.toNat=j:=Option.some.inj h
   exact ⟨by rw [seqIndex_of h0 h1,e],by omega,by omega,h1⟩
  ·rw [if_neg h1] at h; cases h
 ·rw [if_neg h0] at h
  by_cases h1:-(n:Int)<=i
  ·rw [if_pos h1] at h
   have e:(i+n).toNat=j:=Option.some.inj h
   exact ⟨by rw [seqIndex_neg (by omega) h1,e],by omega,h1,by omega⟩
  ·rw [if_neg h1] at h; cases h
theorem JU {α:Type} {xs:List α} {i:Int} {v:α} (h:atI xs i=some v):∃ j,seqIndex? i xs.length=some j/\xs[j]?=some v/\j < xs.length/\-(xs.length:Int)<=i/\i < xs.length:=by
 unfold atI at h
 cases e:ixN xs.length i with
 | none=>rw [e] at h; cases h
 | some j=>
  rw [e] at h
  obtain ⟨h1,h2,h3,h4⟩:=Uv e
  exact ⟨j,h1,h,h2,h3,h4⟩
theorem vC {α:Type} {xs:List α} {j:Nat} {v:α} (h:xs[j]?=some v):atI xs (j:Int)=some v:=by
 have hj:j < xs.length:=(List.getElem?_eq_some_iff.mp h).1
 have e:ixN xs.length (j:Int)=some j:=by
  unfold ixN
  rw [if_pos (by omega),if_pos (by omega)]; simp
 unfold atI; rw [e]; exact h
def JV (b:Expr):Prop:=∀ o i,subscripted b false o i=operate [o,i] (getItem o i)
def IxR (X:Cx) (r:R2):Prop:=
 ∀ (value slice:Expr) (pins:List (Addr×Obj)) (s:Shared) (σ:St) (H:Hp) (x y:V) (v u:Value) (Q:VK),Inv X pins σ H s->RelV x v->RelV y u->r x y H Q ->
  subscripted slice false v u=operate [v,u] (getItem v u)->wpAny (model X.prog X.w) X.A (subscriptTail value slice v u) (EP X pins σ Q) X.xe s
def MtR (X:Cx) (id:String) (r:V->List V->Hp->VK->Prop):Prop:=
 ∀ (pins:List (Addr×Obj)) (s:Shared) (σ:St) (H:Hp) (x:V) (xs:List V) (v:Value) (us:List Value) (Q:VK),Inv X pins σ H s->RelV x v->Vals xs us->r x xs H Q ->
  wpAny (model X.prog X.w) X.A (call (.builtin id) (v::us)) (EP X pins σ Q) X.xe s
section
variable {X:Cx} {a b:Expr} {ta tb:TE} {pos:Pos}
theorem IxR.or {r r':R2} (h:IxR X r) (h':IxR X r'):IxR X (fun x y H Q=>r x y H Q\/r' x y H Q):=by
 intro value slice pins s σ H x y v u Q I rx ry q hs
 rcases q with q | q
 ·exact h value slice pins s σ H x y v u Q I rx ry q hs
 ·exact h' value slice pins s σ H x y v u Q I rx ry q hs
theorem qcq {r:R2} (hr:IxR X r) (ha:PE X a ta) (hb:PE X b tb) (hs:JV b):PE X (.Subscript a b pos) (tOp r ta tb):=by
 refine ⟨?_⟩
 intro pins s σ H Q I h
 exact Subscript_ (qef ha hb I h fun v u s2 x y H2 I2 rx ry q=>hr a b pins s2 σ H2 x y v u Q I2 rx ry q (hs _ _))
def qe6 (K:Frag):R2:=fun x y H Q=>∃ p xs i v,x=.ref p/\y=.int i/\SqL K H p xs/\atI xs i=some v/\Q v H
def qe7 (K:Frag):R2:=fun x y H Q=>∃ p xs i v,x=.ref p/\y=.int i/\SqT K H p xs/\atI xs i=some v/\Q v H
def qe8:R2:=fun x y H Q=>∃ z i c,x=.str z/\y=.int i/\z.length<=sizeLine/\atI z.cps.toList i=some c/\Q (.str ⟨#[c]⟩) H
theorem ix_list:IxR X (qe6 X.K):=by
 intro value slice pins s σ H x y v u Q I rx ry h hs
 obtain ⟨p,xs,i,z,rfl,rfl,hq,he,q⟩:=h
 cases rx
 obtain ⟨t,rfl⟩:=ry
 obtain ⟨its,r,pl,hz⟩:=I.list hq
 obtain ⟨j,h1,h2,h3,h4,h5⟩:=JU he
 obtain ⟨w,ew,rw'⟩:=r.get h2
 have hl:=r.length
 have hn:=zT
 have fin:EP X pins σ Q w s:=⟨z,H,I,rw',q⟩
 by_cases h0:0<=i
 ·have hj:i.toNat=j:=by
   rw [seqIndex_of h0 h5] at h1
   exact Option.some.inj h1
  exact item_listR pl.isList h0 (by omega) (by rw [hj]; simpa using ew) fin hs
 ·have hj:(i+(its.toArray.size:Int)).toNat=j:=by
   rw [seqIndex_neg (by omega) h4] at h1
   rw [List.size_toArray,<-hl]
   exact Option.some.inj h1
  exact subscriptTail_builtinR (x:=w) pl.isList.typeIs slot_list_getitem.lookup
   (wpAny_getItem_list_neg (Q:=fun r s'=>r=w/\EP X pins σ Q r s') pl.isList (by omega) (by rw [List.size_toArray] <;> omega) (by omega) (by rw [hj]; simpa using ew) ⟨rfl,fin⟩) hs
theorem ix_tup:IxR X (qe7 X.K):=by
 intro value slice pins s σ H x y v u Q I rx ry h hs
 obtain ⟨p,xs,i,z,rfl,rfl,hq,he,q⟩:=h
 cases rx
 obtain ⟨t,rfl⟩:=ry
 obtain ⟨its,r,pl,hz⟩:=I.tuple hq
 obtain ⟨j,h1,h2,h3,h4,h5⟩:=JU he
 obtain ⟨w,ew,rw'⟩:=r.get h2
 have hl:=r.length
 have hn:=zT
 have fin:EP X pins σ Q w s:=⟨z,H,I,rw',q⟩
 exact subscriptTail_builtinR (x:=w) pl.typeIs slot_tuple_getitem.lookup
  (getItem_tuple (j:=j) (Q:=fun r s'=>r=w/\EP X pins σ Q r s') pl (by omega) (by omega) (by rw [List.size_toArray,<-hl]; exact h1) (by simpa using ew) ⟨rfl,fin⟩) hs
theorem qcr:IxR X qe8:=by
 intro value slice pins s σ H x y v u Q I rx ry h hs
 obtain ⟨z,i,c,rfl,rfl,hz,he,q⟩:=h
 obtain ⟨t,rfl⟩:=rx
 obtain ⟨t',rfl⟩:=ry
 obtain ⟨j,h1,h2,h3,h4,h5⟩:=JU he
 have hl:z.cps.toList.length=z.length:=by simp [Str.length]
 rw [hl] at h1 h4 h5
 have hn:=zT
 exact tail_any (typeIs_str s z t) slot_str_getitem.lookup (getItem_str (c:=c) (by
  have e1:decide (i < -(2 ^ 63:Int))=false:=decide_eq_false (by omega)
  have e2:decide (i ≥ 2 ^ 63)=false:=decide_eq_false (by omega)
  rw [e1,e2,Bool.or_false]) (by rw [h1]; simpa using h2) ⟨.str ⟨#[c]⟩,H,I.tok _,⟨_,rfl⟩,q⟩) hs
def rIx (K:Frag):R2:=fun x y H Q=>qe6 K x y H Q\/qe7 K x y H Q\/qe8 x y H Q
theorem qcs:IxR X (rIx X.K):=ix_list.or (ix_tup.or qcr)
theorem Ww (its:List Value) (n j:Nat) (u:Value):Obj.mapSeq (·.setIfInBounds j u) { cls:=.type "list",data:=.seq its.toArray n }={ cls:=.type "list",data:=.seq (its.set j u).toArray n }:=by
 simp [Obj.mapSeq]
theorem Inv.lst {pins:List (Addr×Obj)} {σ:St} {H:Hp} {s:Shared} {p:Addr} {xs:List V} (I:Inv X pins σ H s) (h:H p=some (.lst xs)) :
  ∃ (its:List Value) (n:Nat),Vals xs its/\s.heap.get? p=some { cls:=.type "list",data:=.seq its.toArray n }/\xs.length<=sizeLine:=by
 obtain ⟨z,its,n,r,e⟩:=I.hok p _ h
 exact ⟨its,n,r,e,z⟩
theorem Inv.lstUpd {pins:List (Addr×Obj)} {σ:St} {H:Hp} {s:Shared} {p:Addr} {xs ys:List V} {its its':List Value} {n n':Nat} {f:Obj->Obj} (I:Inv X pins σ H s) (h:H p=some (.lst xs))
  (ho:s.heap.get? p=some { cls:=.type "list",data:=.seq its.toArray n }) (hf:f { cls:=.type "list",data:=.seq its.toArray n }={ cls:=.type "list",data:=.seq its'.toArray n' }) (r:Vals ys its') (hz:ys.length<=sizeLine) (t:Nat) :
  Inv X pins σ (upd H p (.lst ys)) { s with heap:=s.heap.update p f,toks:=t }:=by
 have e:(s.heap.update p f).get? p=some { cls:=.type "list",data:=.seq its'.toArray n' }:=by
  rw [Heap.get?_update_self f ho (by rw [hf] <;> rfl),hf]
 refine I.write (x:=p) (e:=p) (by rw [h]; trivial) (.inl rfl) (fun b u hb q=>(Heap.get?_update_other _ _ (Ne.symm hb)).trans q) ⟨_,e⟩ ?_
 exact ⟨hz,its',n',r,e⟩
def qes:V->V->V->Hp->(Hp->Prop)->Prop:=fun o i v H Q=>∃ p xs k j,o=.ref p/\i=.int k/\H p=some (.lst xs)/\ixN xs.length k=some j/\Q (upd H p (.lst (xs.set j v)))
theorem XX:qe3 X qes:=by
 intro pins s σ H o i v ov iv u Q I ro ri rv h
 obtain ⟨p,xs,k,j,rfl,rfl,hp,hj,q⟩:=h
 cases ro
 obtain ⟨t,rfl⟩:=ri
 obtain ⟨its,n,r,ho,hz⟩:=I.lst hp
 obtain ⟨h1,h2,h3,h4⟩:=Uv hj
 have hl:=r.length
 have hn:=zT
 have I':Inv X pins σ (upd H p (.lst (xs.set j v))) { s with heap:=s.heap.update p (Obj.mapSeq (·.setIfInBounds j u)) }:=
  I.lstUpd hp ho (Ww its n j u) (r.set rv j) (by rw [List.length_set]; exact hz) s.toks
 by_cases h0:0<=k
 ·have hk:k.toNat=j:=by
   rw [seqIndex_of h0 h4] at h1
   exact Option.some.inj h1
  exact PySem.W.ki_setAt ho h0 (by omega) (by rw [List.size_toArray,<-hl]; exact h4) (by rw [hk]; exact ⟨_,I',q⟩)
 ·have hk:(k+(its.toArray.size:Int)).toNat=j:=by
   rw [seqIndex_neg (by omega) h3] at h1
   rw [List.size_toArray,<-hl]
   exact Option.some.inj h1
  exact PySem.W.ki_setBack ho (by omega) (by rw [List.size_toArray,<-hl]; exact h3) (by omega) (by rw [hk]; exact ⟨_,I',q⟩)
theorem yC:wS X (.type "list") (fun xs H Q=>∃ p ys,xs=[.ref p]/\(SqL X.K H p ys\/SqT X.K H p ys)/\∀ l,H l=none->Q (.ref l) (upd H l (.lst ys))):=by
 intro pins s σ H xs us Q I r h
 obtain ⟨p,ys,rfl,hq,q⟩:=h
 obtain ⟨u,rfl,rx⟩:=wZ r
 cases rx
 have fin:∀ (its:List Value),Vals ys its->ys.length<=sizeLine->∀ (h':Heap) (c':Nat),(∀ b o',s.heap.get? b=some o'->h'.get? b=some o') ->
   h'.get? s.heap.objs.size=some { cls:=.type "list",dict:=none,data:=.seq its.toArray c',slots:=#[] }->EP X pins σ Q (.ref s.heap.objs.size) { s with heap:=h' }:=fun its r' hz h' c' kp e=>
  ⟨.ref s.heap.objs.size,_,I.laid (t':=s.toks) kp (Nat.le_refl _) (show ObjOk X.prog X.w _ h' _ (.lst ys) from ⟨hz,its,c',r',e⟩),rfl,q _ (I.hok.fresh (Nat.le_refl _))⟩
 rcases hq with hq | hq
 ·obtain ⟨its,r',pl,hz⟩:=I.list hq
  have hlen:=r'.length
  obtain ⟨o,ho,hc,n,hd⟩:=pl.isList
  exact call_list_seq p (.inl rfl) ho hc hd (fun h' c' kp e=>fin its r' hz h' c' kp e) (by simp only [List.size_toArray] <;> omega)
 ·obtain ⟨its,r',pl,hz⟩:=I.tuple hq
  have hlen:=r'.length
  obtain ⟨o,ho,hc,n,hd⟩:=pl
  exact call_list_seq p (.inr rfl) ho hc hd (fun h' c' kp e=>fin its r' hz h' c' kp e) (by simp only [List.size_toArray] <;> omega)
theorem uo:wS X (.type "tuple") (fun xs H Q=>∃ p ys,xs=[.ref p]/\((SqL X.K H p ys/\∀ l,H l=none->Q (.ref l) (upd H l (.tup ys)))\/(SqT X.K H p ys/\Q (.ref p) H))):=by
 intro pins s σ H xs us Q I r h
 obtain ⟨p,ys,rfl,h⟩:=h
 obtain ⟨u,rfl,rx⟩:=wZ r
 cases rx
 rcases h with ⟨hq,q⟩ | ⟨hq,q⟩
 ·obtain ⟨its,r',pl,hz⟩:=I.list hq
  have hlen:=r'.length
  refine call_tuple_list pl.isList (fun h' kp=>?_) (by simp only [List.size_toArray] <;> omega)
  have I1:Inv X pins σ H { s with heap:=h' }:=I.kept (t':=s.toks) kp
  have I2:Inv X pins σ (upd H h'.objs.size (.tup ys)) { s with heap:=h'.push { cls:=.type "tuple",data:=.seq its.toArray } }:=
   I1.laid (t':=s.toks) (fun b o e=>Heap.get?_push_of_some _ e) (Nat.le_refl _) (show ObjOk X.prog X.w _ _ _ (.tup ys) from ⟨⟨hz,_,Heap.get?_push_size _ rfl,rfl⟩,its,r',IsTup.new _ _⟩)
  exact ⟨.ref h'.objs.size,_,I2,rfl,q _ (I1.hok.fresh (Nat.le_refl _))⟩
 ·obtain ⟨its,r',pl,hz⟩:=I.tuple hq
  exact call_tuple_same pl ⟨.ref p,H,I,rfl,q⟩
def tyV (K:Frag) (T:String) (x:V) (H:Hp):Prop:=match x with
 | .str _=>T = "str"
 | .int _=>T = "int"
 | .ref p=>(T = "list"/\∃ xs,SqL K H p xs)\/(T = "tuple"/\∃ o,K.lookup p=some o/\o.cls=.type "tuple"/\o.dict=none) \/
   (T = "dict"/\((∃ kvs,H p=some (.dK kvs))\/∃ kvs,H p=some (.dT kvs)))\/(T = "set"/\∃ S n,H p=some (.set S n))
 | _=>False
theorem GM {pins:List (Addr×Obj)} {σ:St} {H:Hp} {s:Shared} {T:String} {x:V} {v:Value} (I:Inv X pins σ H s) (r:RelV x v) (ty:tyV X.K T x H) :
  s.TypeIs v T/\∀ a,v=.ref a->∃ ob,s.heap.get? a=some ob/\ob.dict=none:=by
 cases x with
 | str z=>
  obtain ⟨t,rfl⟩:=r
  cases (show T = "str" from ty)
  exact ⟨typeIs_str s z t,fun _ e=>nomatch e⟩
 | int i=>
  obtain ⟨t,rfl⟩:=r
  cases (show T = "int" from ty)
  exact ⟨typeIs_int s i t,fun _ e=>nomatch e⟩
 | ref p=>
  cases r
  rcases ty with ⟨rfl,xs,hq⟩ | ⟨rfl,o,hk,hc,hd⟩ | ⟨rfl,hk⟩ | ⟨rfl,S,n,hk⟩
  ·obtain ⟨its,_,pl,_⟩:=I.list hq
   refine ⟨pl.isList.typeIs,fun a e=>?_⟩
   cases e
   obtain ⟨o,n,e,c,hd,_⟩:=pl
   exact ⟨o,e,hd⟩
  ·refine ⟨⟨o,I.kIn p o hk,hc⟩,fun a e=>?_⟩
   cases e
   exact ⟨o,I.kIn _ o hk,hd⟩
  ·have z:∃ o,s.heap.get? p=some o/\o.ExactDict:=by
    rcases hk with ⟨kvs,hk⟩ | ⟨kvs,hk⟩
    ·obtain ⟨_,_,_,_,o,_,_,e,ex,_⟩:=I.hok p _ hk
     exact ⟨o,e,ex⟩
    ·obtain ⟨_,_,_,_,o,_,_,e,ex,_⟩:=I.hok p _ hk
     exact ⟨o,e,ex⟩
   obtain ⟨o,e,ex⟩:=z
   refine ⟨⟨o,e,ex.1⟩,fun a e2=>?_⟩
   cases e2
   exact ⟨o,e,ex.2.1⟩
  ·obtain ⟨o,_,_,_,e,ex,_⟩:=I.hok p _ hk
   refine ⟨⟨o,e,ex.1⟩,fun a e2=>?_⟩
   cases e2
   exact ⟨o,e,ex.2.1⟩
 | _=>exact False.elim ty
def qfL (K:Frag) (T:String) (r:V->List V->Hp->VK->Prop) (to:TE):TE:=fun σ H Q=>to σ H fun x H1=>tyV K T x H1/\r x [] H1 Q
def tBM (K:Frag) (T:String) (r:V->List V->Hp->VK->Prop) (to:TE) (t:TA):TE:=fun σ H Q=>to σ H fun x H1=>tyV K T x H1/\t σ H1 fun xs H2=>r x xs H2 Q
variable {o e:Expr} {es:List Expr} {to:TE} {t:TA} {name:Str} {apos cpos:Pos} {T id:String} {r:V->List V->Hp->VK->Prop}
theorem qct (pa:PlainAttrs T) (slot:Slot T name id) (hty:typeOf (.builtin id)=pure (.type "method_descriptor")) (hm:MtR X id r) (ho:PE X o to)
  (hbase:attributeBase o name X.env (eval o X.env)=eval o X.env:=by rfl) (hline:(apos.endLine == cpos.line)=true:=by rfl):PE X (.Call (.Attribute o name apos) [] [] cpos) (qfL X.K T r to):=by
 refine ⟨?_⟩
 intro pins s σ H Q I h
 refine wpAny_Call_method0_late hbase hline (thn (ho pins s σ H _ I h) fun v s1 ⟨x,H1,I1,r1,ty,q1⟩=>?_)
 obtain ⟨h1,h2⟩:=GM I1 r1 ty
 exact ⟨T,id,pa,slot,hty,h1,h2,Calls.callWith_builtin rfl (PySem.evalArgs_none (hm pins s1 σ H1 x [] v [] Q I1 r1 .nil q1))⟩
theorem XY (pa:PlainAttrs T) (slot:Slot T name id) (hty:typeOf (.builtin id)=pure (.type "method_descriptor")) (hm:MtR X id r) (ho:PE X o to) (ha:PA X (e::es) t)
  (hbase:attributeBase o name X.env (eval o X.env)=eval o X.env:=by rfl)
  (hfew:((backTo cpos (starEach (e::es) X.env)).all (fun x=>!x.1)&&(backToKw cpos (keywordEach [] X.env)).all (fun x=>x.1.isSome)
   && decide ((e::es).length+([]:List Keyword).length+(if ([]:List Keyword).isEmpty then 0 else 1) < 30))=true:=by rfl)
  (hline:(apos.endLine == cpos.line)=true:=by rfl) (hs:starEach (e::es) X.env=(false,eval e X.env)::starEach es X.env:=by rfl) (hplain:(backTo cpos (starEach es X.env)).any (·.1)=false:=by rfl) :
  PE X (.Call (.Attribute o name apos) (e::es) [] cpos) (tBM X.K T r to t):=by
 refine ⟨?_⟩
 intro pins s σ H Q I h
 refine wpAny_Call_method_late hbase hfew hline rfl (thn (ho pins s σ H _ I h) fun v s1 ⟨x,H1,I1,r1,ty,q1⟩=>?_)
 obtain ⟨h1,h2⟩:=GM I1 r1 ty
 refine ⟨T,id,pa,slot,hty,h1,h2,?_⟩
 have hA:=ha cpos pins s1 σ H1 _ I1 q1
 rw [hs] at hA ⊢
 refine Calls.callWith_builtin (by show (false||(backTo cpos (starEach es X.env)).any (·.1))=false; rw [hplain] <;> rfl) (Calls.evalArgs_plain ?_)
 exact thn hA fun us s2 ⟨vs,H2,I2,r2,q2⟩=>hm pins s2 σ H2 x vs v us Q I2 r1 r2 q2
end
def MtM (X:Cx) (id:String) (r:V->List V->Hp->VK->Prop):Prop:=
 ∀ (pins:List (Addr×Obj)) (s:Shared) (σ:St) (H:Hp) (x:V) (xs:List V) (v:Value) (us:List Value) (Q:VK),Inv X pins σ H s->RelV x v->Vals xs us->r x xs H Q ->
  wpAny (model X.prog X.w) X.A (call (.builtin id) (v::us)) (EP X pins σ Q) X.xe s
theorem Vals.one:∀ {x:V} {us:List Value},Vals [x] us->∃ u,us=[u]/\RelV x u
 | _,_,.cons r .nil=>⟨_,rfl,r⟩
theorem Vals.two:∀ {x y:V} {us:List Value},Vals [x,y] us->∃ u v,us=[u,v]/\RelV x u/\RelV y v
 | _,_,_,.cons r (.cons q .nil)=>⟨_,_,rfl,r,q⟩
theorem Vals.zero:∀ {us:List Value},Vals [] us->us=[]
 | _,.nil=>rfl
theorem Vals.dropLast {xs:List V} {us:List Value} (h:Vals xs us):Vals xs.dropLast us.dropLast:=by
 induction h with
 | nil=>exact .nil
 | cons r t ih=>
  cases t with
  | nil=>exact .nil
  | cons q t'=>exact .cons r ih
theorem Vals.eraseIdx:∀ {xs:List V} {us:List Value} (i:Nat),Vals xs us->Vals (xs.eraseIdx i) (us.eraseIdx i)
 | _,_,_,.nil=>.nil
 | _,_,0,.cons _ t=>t
 | _,_,i+1,.cons r t=>.cons r (Vals.eraseIdx i t)
theorem Vals.reverse {xs:List V} {us:List Value} (h:Vals xs us):Vals xs.reverse us.reverse:=by
 induction h with
 | nil=>exact .nil
 | cons r t ih=>rw [List.reverse_cons,List.reverse_cons]; exact Vals.append ih (.cons r .nil)
theorem Vals.rep {xs:List V} {us:List Value} (h:Vals xs us):∀ k:Nat,Vals (List.replicate k xs).flatten (List.replicate k us).flatten
 | 0=>.nil
 | k+1=>by
  rw [List.replicate_succ,List.replicate_succ,List.flatten_cons,List.flatten_cons]
  exact Vals.append h (Vals.rep h k)
theorem Wx {α:Type} (l:List α):l.eraseIdx (l.length - 1)=l.dropLast:=by
 induction l with
 | nil=>rfl
 | cons a r ih=>
  cases r with
  | nil=>rfl
  | cons b r=>
   have e:(a::b::r).length - 1=((b::r).length - 1)+1:=by
    have h1:(a::b::r).length=r.length+2:=rfl
    have h2:(b::r).length=r.length+1:=rfl
    omega
   rw [e,List.eraseIdx_cons_succ,ih]
   all_goals rfl
theorem QK {α:Type}:∀ (l:List α) (i:Nat),(l.eraseIdx i).length<=l.length
 | [],_=>Nat.le_refl _
 | _::_,0=>Nat.le_succ _
 | _::r,i+1=>Nat.succ_le_succ (QK r i)
section
variable {X:Cx} {pins:List (Addr×Obj)} {σ:St} {H:Hp} {s:Shared} {l b:Addr} {xs ys zs:List V}
theorem Inv.lset {its its':List Value} {n:Nat} {f:Array Value->Array Value} {t':Nat} (I:Inv X pins σ H s) (hH:H l=some (.lst xs))
  (e:s.heap.get? l=some { cls:=.type "list",data:=.seq its.toArray n }) (hf:f its.toArray=its'.toArray) (hv:Vals ys its') (hz:ys.length<=sizeLine) :
  Inv X pins σ (upd H l (.lst ys)) { s with heap:=s.heap.update l (Obj.mapSeq f),toks:=t' }:=by
 have q:=PySem.IsL.update e f
 rw [hf] at q
 refine I.write (x:=l) (e:=l) (by rw [hH]; exact trivial) (.inl rfl) (fun b' u hb hu=>(Heap.get?_update_other s.heap (Obj.mapSeq f) (Ne.symm hb)).trans hu) ⟨_,q⟩ ?_
 exact ⟨hz,its',_,hv,q⟩
theorem Inv.lnew {its:List Value} {t':Nat} (I:Inv X pins σ H s) (hv:Vals ys its) (hz:ys.length<=sizeLine) :
  Inv X pins σ (upd H s.heap.objs.size (.lst ys)) { s with heap:=s.heap.push { cls:=.type "list",data:=.seq its.toArray },toks:=t' }:=
 I.laid (fun _ _ q=>Heap.get?_push_of_some _ q) (Nat.le_refl _) ⟨hz,its,0,hv,Heap.get?_push_size _ rfl⟩
theorem Inv.fresh (I:Inv X pins σ H s):H s.heap.objs.size=none:=I.hok.fresh (Nat.le_refl _)
theorem Inv.lstM (I:Inv X pins σ H s) (hH:H l=some (.lst xs)):xs.length<=sizeLine/\∃ (its:List Value) (n:Nat),Vals xs its/\xs.length=its.length/\s.heap.get? l=some { cls:=.type "list",data:=.seq its.toArray n }:=by
 obtain ⟨z,its,n,r,e⟩:=I.hok l _ hH
 exact ⟨z,its,n,r,r.length,e⟩
theorem XZ {n:Nat} (h:n<=sizeLine):Builtin.List.listTooLong n=false:=by
 unfold Builtin.List.listTooLong
 exact decide_eq_false (by omega)
end
section
variable {X:Cx}
def JW:V->List V->Hp->VK->Prop:=fun x vs H Q=>∃ l xs y,x=.ref l/\vs=[y]/\H l=some (.lst xs)/\xs.length < sizeLine/\Q .non (upd H l (.lst (xs++[y])))
theorem QL:MtM X "list.append" JW:=by
 intro pins s σ H x vs v us Q I rx rv h
 obtain ⟨l,xs,y,rfl,rfl,hH,hz,q⟩:=h
 cases rx
 obtain ⟨u,rfl,ru⟩:=rv.one
 obtain ⟨z,its,n,r,hl,e⟩:=I.lstM hH
 refine call_meets F.slot_list_append ⟨_,e,rfl⟩ F.entry_list_append (F.args_list_append_2 _ _) (PySem.list_append l its.toArray n u (by rw [List.size_toArray]; omega)) ⟨e,?_⟩
 refine ⟨.non,_,I.lset (its':=its++[u]) hH e (by simp) (r.append (.cons ru .nil)) ?_,rfl,q⟩
 rw [List.length_append,List.length_singleton]
 omega
def qaF:V->List V->Hp->VK->Prop:=fun x vs H Q=>∃ l b xs zs,x=.ref l/\vs=[.ref b]/\H l=some (.lst xs)/\H b=some (.lst zs)/\xs.length+zs.length<=sizeLine/\Q .non (upd H l (.lst (xs++zs)))
theorem Uw:MtM X "list.extend" qaF:=by
 intro pins s σ H x vs v us Q I rx rv h
 obtain ⟨l,b,xs,zs,rfl,rfl,hH,hB,hz,q⟩:=h
 cases rx
 obtain ⟨u,rfl,ru⟩:=rv.one
 cases ru
 obtain ⟨z,its,n,r,hl,e⟩:=I.lstM hH
 obtain ⟨z2,its2,n2,r2,hl2,e2⟩:=I.lstM hB
 have hsz:its.toArray.size+its2.toArray.size<=sizeLine:=by rw [List.size_toArray,List.size_toArray]; omega
 have hlong:¬(!its.toArray.isEmpty&&Builtin.List.listTooLong (its.toArray.size+its2.toArray.size))=true:=by
  rw [XZ hsz,Bool.and_false]
  exact Bool.false_ne_true
 refine call_meets F.slot_list_extend ⟨_,e,rfl⟩ F.entry_list_extend (F.args_list_extend_2 _ _)
  (AutoSeq1.list_extend_list_list_0 l its.toArray n b its2.toArray n2 hlong (by rw [List.size_toArray]; omega) (by omega)) ⟨e,e2,?_⟩
 refine ⟨.non,_,I.lset (its':=its++its2) hH e (by simp) (r.append r2) ?_,rfl,q⟩
 rw [List.length_append]
 omega
def qfM:V->List V->Hp->VK->Prop:=fun x vs H Q=>∃ l xs y,x=.ref l/\vs=[]/\H l=some (.lst xs)/\xs[xs.length - 1]?=some y/\Q y (upd H l (.lst xs.dropLast))
theorem qcu:MtM X "list.pop" qfM:=by
 intro pins s σ H x vs v us Q I rx rv h
 obtain ⟨l,xs,y,rfl,rfl,hH,hy,q⟩:=h
 cases rx
 have hus:=rv.zero
 subst hus
 obtain ⟨z,its,n,r,hl,e⟩:=I.lstM hH
 obtain ⟨u,hu,ru⟩:=r.get hy
 have hy':its.toArray[its.toArray.size - 1]?=some u:=by
  show its.toArray[its.length - 1]?=some u
  rw [<-Array.getElem?_toList,<-hl]
  exact hu
 refine call_meets F.slot_list_pop ⟨_,e,rfl⟩ F.entry_list_pop (F.args_list_pop_1 _) (MeetsSeq.list_pop_last l its.toArray n u hy' (by rw [List.size_toArray]; omega)) ⟨e,?_⟩
 refine ⟨y,_,I.lset (its':=its.dropLast) hH e ?_ r.dropLast ?_,ru,q⟩
 ·show its.toArray.eraseIdxIfInBounds (its.toArray.size - 1)=its.dropLast.toArray
  rw [List.size_toArray,List.eraseIdxIfInBounds_toArray,Wx]
 ·rw [List.length_dropLast]
  omega
def qcv:V->List V->Hp->VK->Prop:=fun x vs H Q=>∃ l xs i k y,x=.ref l/\vs=[.int i]/\H l=some (.lst xs)/\-(2 ^ 63)<=i/\i < 2 ^ 63/\seqIndex? i xs.length=some k/\xs[k]?=some y/\Q y (upd H l (.lst (xs.eraseIdx k)))
theorem Za:MtM X "list.pop" qcv:=by
 intro pins s σ H x vs v us Q I rx rv h
 obtain ⟨l,xs,i,k,y,rfl,rfl,hH,h1,h2,hk,hy,q⟩:=h
 cases rx
 obtain ⟨u,rfl,ru⟩:=rv.one
 obtain ⟨t,rfl⟩:=ru
 obtain ⟨z,its,n,r,hl,e⟩:=I.lstM hH
 obtain ⟨w,hw,rw'⟩:=r.get hy
 refine call_meets F.slot_list_pop ⟨_,e,rfl⟩ F.entry_list_pop (F.args_list_pop_2 _ _)
  (MeetsSeq.list_pop_at l its.toArray n i t k w (fitsIndex_both h1 h2) (by rw [List.size_toArray,<-hl]; exact hk) (by rw [<-Array.getElem?_toList]; exact hw) (by rw [List.size_toArray]; omega)) ⟨e,?_⟩
 refine ⟨y,_,I.lset (its':=its.eraseIdx k) hH e ?_ (r.eraseIdx k) ?_,rw',q⟩
 ·show its.toArray.eraseIdxIfInBounds k=(its.eraseIdx k).toArray
  rw [List.eraseIdxIfInBounds_toArray]
 ·have:=QK xs k
  omega
end
end L2
namespace Att
open PySem PySem.W PySem.Calls PyProof.Rows
theorem xy {P:Params} {h:Heap}:∀ (ns:List Int) (vs:List Value),WellAll P h vs (ns.map WData.int)->IntsAre vs ns:=by
 intro ns
 induction ns with
 | nil=>
  intro vs w
  rw [List.map_nil] at w
  cases w
  exact .nil
 | cons n ns ih=>
  intro vs w
  rw [List.map_cons] at w
  cases w with
  | cons a b=>
   cases a
   exact .cons _ _ (ih _ b)
theorem Ux {l:OpenLaw} {n:Nat} (hn:l.most=some n) {P:Params} {h:Heap} {args:List WData} {vals:List Value}
  (hpre:l.row.toRowW.claim.pre args=true) (hwl:WellAll P h vals args) :
  ∃ a vs ns,vals=[Value.ref a]/\args=[WData.list (ns.map WData.int)]/\h.get? a=some { cls:=.type "list",data:=.seq vs.toArray }/\IntsAre vs ns/\ns.length<=n:=by
 have hsh:WShape.hasAll [] args [.list .int]=true:=(pre_splitW hpre).1
 have hc:l.pre.holds [] { args:=args }=true:=(pre_splitW hpre).2
 obtain ⟨d,r,rfl,h1,h2⟩:=hasAllW_cons hsh
 obtain rfl:=hasAllW_nil h2
 obtain ⟨xs,rfl,h3⟩:=hasW_list h1
 obtain ⟨ns,rfl⟩:=items_int h3
 have hlen:ns.length<=n:=by
  unfold OpenLaw.pre at hc
  have h4:(WTm.not (.lt (.lit (.int (n:Int))) (.len (.arg 0)))).holds [] { args:=[.list (ns.map .int)] }=true:=by
   have h4:=(holds_andW hc).1
   rw [hn] at h4
   exact h4
  have h5:=condW_of h4 (w_not (w_lt w_lit (w_len_list (w_arg rfl))))
  rw [List.length_map] at h5
  refine Nat.le_of_not_lt fun q=>?_
  have q':(n:Int) < ((ns.length:Nat):Int):=by omega
  first
   | (rw [decide_eq_true q'] at h5; exact absurd h5 (by decide))
   | (simp at h5; omega)
 cases hwl with
 | cons w1 w2=>
  cases w2
  cases w1 with
  | list ho hall=>exact ⟨_,_,ns,rfl,rfl,ho,xy ns _ hall,hlen⟩
theorem Uy (l:OpenLaw) (args:List WData):l.row.toRowW.claim.post args (.bool true) args=true:=
 postW_of (r:=l.row.toRowW) (X:=(true == true))
  (show WShape.has [] (.bool true) .bool=true by first | rfl | decide | simp [WShape.has,WShape.arms,WShape.armsAll])
  (show (WTm.eq .res (.lit (.bool true))).value [] { args:=args,res:=some (.bool true),after:=args }=some (.bool (true == true)) from w_eq_bool (w_res rfl) w_lit) rfl
theorem attach_call {l:OpenLaw} {n:Nat} {q:Program} {loose:List Str} {XP:(Str->Option Value)->Heap->Prop} {YP:World->Heap->Prop} {d:DefRec}
  (hn:l.most=some n) (hdf:d.params.defaults=[])
  (call:∀ (w:World) (s₀ s₁:Shared) (mg mb:Str->Option Value) (fa:Addr) (o:Obj) (pm cd doc:Value) (a:Addr) (vs:List Value) (ns:List Int),
   Ground q loose [] XP w s₀ mg mb s₁.heap->YP w s₁.heap ->
   s₁.heap.get? fa=some o->o.data=.func (docDef d.name d.params d.body d.scope pm cd doc)->s₁.heap.CodeRec cd d.name->mg d.name=some (.ref fa) ->
   s₁.heap.get? a=some { cls:=.type "list",data:=.seq vs.toArray }->IntsAre vs ns->ns.length<=n->s₁.gens=#[] ->
   codeAny (model l.prog w) callerA (.call (.ref fa) ⟨[.ref a],[]⟩) (fun r s'=>r=.ok (.ret (.bool true))/\OldK s₁.heap s'.heap/\s'.os=s₁.os/\AllBare s'.gens) s₁) :
  WalkO q loose XP YP l.row.toRowW d [] (fun f vs=>PySem.call f vs):=by
 intro w s₀ s₁ mg mb G Y fa o pm cd doc dV kV ho hd hcd hD hmg hg args vals as hpre hlay hrd hwl hlo
 obtain rfl:dV=.none:=Dflts.none hD hdf
 obtain rfl:kV=.none:=Dflts.noKw hD
 obtain ⟨a,vs,ns,rfl,rfl,hobj,hints,hlen⟩:=Ux hn hpre hwl
 refine enter_call (codeAny_mono (call w s₀ s₁ mg mb fa o pm cd doc a vs ns G Y ho (fd_plain hd) hcd hmg hobj hints hlen hg) fun r s' hq=>?_)
 obtain ⟨rfl,h2,h3,h4⟩:=hq
 exact ⟨.inl ⟨.bool true,.bool true,[],rfl,fun _=>rfl,.bool true,Uy l _,fun _=>⟨List.Pairwise.nil,fun _ hm=>(nomatch hm)⟩⟩,h2,h3,h4⟩
end Att
namespace L2
open PySem PySem.Spec PyProof.Rows
theorem QM:∀ {vs:List Value} {ns:List Int},IntsAre vs ns->Vals (ns.map V.int) vs
 | _,_,.nil=>.nil
 | _,_,.cons n t h=>.cons ⟨t,rfl⟩ (QM h)
def qet (H:Hp):Prop:=∀ b,H b=none\/∃ o xs,H b=some (.frz o (.lst xs))
theorem Zb {P:Program} {w:World} {K:Frag} {mg mb:Str->Option Value} {CX:CXT} {k:Nat} {fa a:Addr} {fd:FuncData} {x:Str} {sp:Sp} {s₁:Shared} {vs:List Value} {ns:List Int}
  (KX:K.In s₁.heap) (hns:s₁.heap.Ns mainGlobals mg) (hb:s₁.heap.Ns builtinsNs mb) (hbb:∀ x:Str,x ≠ "__name__"->mb x=bootBuiltins x) (hlim:s₁.heap.NoLimit) (hg:s₁.gens=#[])
  (ha:s₁.heap.get? a=some { cls:=.type "list",data:=.seq vs.toArray }) (hi:IntsAre vs ns) (hl:ns.length<=sizeLine) (hr:Room k callerA)
  (F:∀ base:Heap,K.In base->base.Ns mainGlobals mg->FnOk P w K mg base CX k fa fd [x] sp) (hbind:∀ (s:Shared) (u:Value),BindsTo s fd ⟨[u],[]⟩ [(x,u)])
  (hsp:∀ H:Hp,qet H->SqL K H a (ns.map V.int)->sp [.ref a] H (fun v _=>v=.bl true) fun _ _ _=>False)
  (hCX:∀ H e s',CX [] H s₁ (fun _ _ _=>False) e s'->False) :
  codeAny (model P w) callerA (.call (.ref fa) ⟨[.ref a],[]⟩) (fun r s'=>r=.ok (.ret (.bool true))/\OldK s₁.heap s'.heap/\s'.os=s₁.os/\AllBare s'.gens) s₁:=by
 have rv:=QM hi
 have lenV:=hi.length
 have core:∀ H:Hp,qet H->SqL K H a (ns.map V.int)->HOk P w H s₁.heap->(∀ b,H b≠none->b=a)->(H a≠none->K.lookup a=none) ->
   codeAny (model P w) callerA (.call (.ref fa) ⟨[.ref a],[]⟩) (fun r s'=>r=.ok (.ret (.bool true))/\OldK s₁.heap s'.heap/\s'.os=s₁.os/\AllBare s'.gens) s₁:=by
  intro H hO hS hok hA hK
  have base_of:∀ {b:Addr} {o:Obj},s₁.heap.get? b=some o->H b=none->(XI s₁.heap H).get? b=some o:=fun e n=>XJ e n
  have noA:∀ {b:Addr} {o:Obj} {es:Array DictEntry} {ep:Nat},s₁.heap.get? b=some o->o.data=.dict es ep->H b=none:=fun {b o es ep} e d=>by
   cases q:H b with
   | none=>rfl
   | some u=>
    have e':b=a:=hA b (by rw [q]; simp)
    subst e'
    rw [ha] at e; cases e
    have d':Data.seq vs.toArray _=Data.dict es ep:=d
    cases d'
  have nsK:∀ {b:Addr} {m:Str->Option Value},s₁.heap.Ns b m->(XI s₁.heap H).Ns b m:=fun {b m} ⟨o,es,ep,e,d,r⟩=>⟨o,es,ep,base_of e (noA e d),d,r⟩
  have hKb:K.In (XI s₁.heap H):=fun b o e=>base_of (KX b o e) (by
   cases q:H b with
   | none=>rfl
   | some u=>
    have e':b=a:=hA b (by rw [q]; simp)
    subst e'
    rw [hK (by rw [q]; simp)] at e; cases e)
  have hM:Mod K mg (XI s₁.heap H):=⟨hKb,nsK hns,⟨mb,nsK hb,hbb⟩,let ⟨mc,h1,h2⟩:=hlim; ⟨mc,nsK h1,h2⟩⟩
  have e0:Env0 P w K mg (XI s₁.heap H) callerA [] s₁ H:=⟨rfl,hM,fun b o e=>qak e,Nat.le_of_eq (Uj _ _),trivial,fun b hb=>absurd (show b∈([]:List Addr) from hb) (by simp),hok,.of_eq hg⟩
  refine codeAny_mono ((F _ hKb (nsK hns)).run callerA [] s₁ H ⟨[.ref a],[]⟩ [.ref a] [.ref a] _ _ hr e0 (hbind s₁ (.ref a)) (.cons rfl .nil) (hsp H hO hS)) fun r s' h=>?_
  cases r with
  | error e=>exact (hCX H e s' h).elim
  | ok fl=>
   cases fl with
   | next=>exact False.elim h
   | brk=>exact False.elim h
   | cont=>exact False.elim h
   | ret u=>
    obtain ⟨v,H',os,bare,un,hok',r',q⟩:=h
    have q':v=.bl true:=q
    subst q'
    obtain rfl:u=Value.bool true:=r'
    refine ⟨rfl,OldK.of_keep fun b o e=>?_,os,bare⟩
    cases q:H b with
    | none=>exact un.keep b o e q (by intro z; exact absurd (show b∈([]:List Addr) from z) (by simp)) (by simp)
    | some u=>
     rcases hO b with z | ⟨ob,xs,z⟩
     ·rw [q] at z; cases z
     ·have z2:=un.frzs b ob _ z
      obtain ⟨e1,_⟩:=hok b _ z
      obtain ⟨e2,_⟩:=hok' b _ z2
      rw [e] at e1; cases e1
      exact e2
 cases hk:K.lookup a with
 | some o=>
  have e:=KX a o hk
  rw [ha] at e
  cases e
  refine core (fun _=>none) (fun _=>.inl rfl) (.inr ⟨_,vs.toArray,_,hk,rfl,rfl,rfl,by rw [List.size_toArray,lenV]; exact hl,by simpa using rv⟩) (fun b u z=>by have z':(none:Option HO)=some u:=z; cases z') (fun b z=>absurd rfl z) fun z=>absurd rfl z
 | none=>
  refine core (fun b=>if b=a then some (.frz { cls:=.type "list",data:=.seq vs.toArray } (.lst (ns.map V.int))) else none) (fun b=>?_) (.inl (.inr ⟨{ cls:=.type "list",data:=.seq vs.toArray },if_pos rfl⟩)) (fun b u z=>?_) (fun b z=>?_) fun _=>hk
  ·by_cases hb:b=a
   ·exact .inr ⟨_,_,if_pos hb⟩
   ·exact .inl (if_neg hb)
  ·by_cases hb:b=a
   ·have z':=(if_pos hb).symm.trans z
    cases z'
    subst hb
    exact ⟨ha,by rw [List.length_map]; exact hl,vs,_,rv,ha⟩
   ·have z':=(if_neg hb).symm.trans z
    cases z'
  ·by_cases hb:b=a
   ·exact hb
   ·exact absurd (if_neg hb) z
theorem qaG {l:PySem.W.OpenLaw} {n k:Nat} {q:Program} {loose:List Str} {XP:(Str->Option Value)->Heap->Prop} {YP:World->Heap->Prop} {d:DefRec} {K:Params->Frag} {CX:World->CXT} {sp:World->Sp} {x:Str}
  (hn:l.most=some n) (hn2:n<=sizeLine) (hdf:d.params.defaults=[]) (hr:Room k callerA)
  (hY:∀ (w:World) (h:Heap),YP w h->(K w.params).In h)
  (F:∀ (w:World) (mg:Str->Option Value) (fa:Addr) (h:Heap),(K w.params).In h->h.Ns mainGlobals mg->mg d.name=some (.ref fa) ->
   ∃ fd:FuncData,(∀ (s:Shared) (u:Value),BindsTo s fd ⟨[u],[]⟩ [(x,u)]) /\
    ∀ base:Heap,(K w.params).In base->base.Ns mainGlobals mg->FnOk l.prog w (K w.params) mg base (CX w) k fa fd [x] (sp w))
  (hsp:∀ (w:World) (H:Hp) (a:Addr) (ns:List Int),ns.length<=n->qet H->SqL (K w.params) H a (ns.map V.int)->sp w [.ref a] H (fun v _=>v=.bl true) fun _ _ _=>False)
  (hCX:∀ (w:World) (H:Hp) (s:Shared) (e:Value) (s':Shared),CX w [] H s (fun _ _ _=>False) e s'->False) :
  PySem.W.WalkO q loose XP YP l.row.toRowW d [] (fun f vs=>PySem.call f vs):=by
 refine Att.attach_call hn hdf fun w s₀ s₁ mg mb fa o pm cd doc a vs ns G Y ho hd hcd hmg hobj hints hlen hg=>?_
 have KX:=hY w _ Y
 obtain ⟨fd,hb,hF⟩:=F w mg fa _ KX G.T.g hmg
 exact Zb KX G.T.g G.T.b G.T.builtins G.T.nolimit hg hobj hints (Nat.le_trans hlen hn2) hr hF hb (fun H hO hS=>hsp w H a ns hlen hO hS) fun H e s'=>hCX w H s₁ e s'
noncomputable def ua (s:Stmt):Arguments:=match s with
 | .FunctionDef _ a _ _ _ _ _ _ _ _=>a
 | _=>{ posonlyargs:=[],args:=[],vararg:=none,kwonlyargs:=[],kw_defaults:=[],kwarg:=none,defaults:=[] }
noncomputable def vD (s:Stmt):List Stmt:=match s with
 | .FunctionDef _ _ b _ _ _ _ _ _ _=>b
 | _=>[]
noncomputable def qf (s:Stmt):Scope:=match s with
 | .FunctionDef _ _ _ _ _ _ sc _ _ _=>sc
 | _=>{ kind:=.function,names:=[],isGenerator:=false,isCoroutine:=false }
structure Fun (K:Frag) (x qual:Str) (st:Stmt) (f:Addr) (fd:FuncData):Prop where
 ex:∃ (oc:Value) (od:Option Addr) (kV doc pm:Value) (an:Option Addr) (cdv ct:Value) (osl:Array (Option Value)),
  fd=PySem.W.fnOf x qual (ua st) (vD st) (qf st) .none kV doc pm an cdv ct/\K.lookup f=some ⟨oc,od,.func fd,osl⟩/\codeIn K cdv qual=true
 kp:keepIn K (.ref f)=true
section
variable {P:Program} {w:World} {K:Frag} {mg:Str->Option Value} {base:Heap}
theorem Fun.binds {x qual:Str} {st:Stmt} {f:Addr} {fd:FuncData} {ps:List Str} (F:Fun K x qual st f fd)
  (h:∀ (kV doc pm:Value) (an:Option Addr) (cdv ct:Value) (us:List Value),us.length=ps.length->bindArgs (PySem.W.fnOf x qual (ua st) (vD st) (qf st) .none kV doc pm an cdv ct) ⟨us,[]⟩=pure (ps.zip us)):Binds K fd ps []:=by
 obtain ⟨oc,od,kV,doc,pm,an,cdv,ct,osl,rfl,lk,hcd⟩:=F.ex
 exact .all (h kV doc pm an cdv ct)
theorem Uz {x qual:Str} {st:Stmt} {f:Addr} {oc:Value} {od an:Option Addr} {osl:Array (Option Value)} {kV doc pm cdv ct:Value} (l:K.lookup f=some ⟨oc,od,.func (PySem.W.fnOf x qual (ua st) (vD st) (qf st) .none kV doc pm an cdv ct),osl⟩)
  (c:codeIn K cdv qual=true) (k:keepIn K (.ref f)=true):Fun K x qual st f (PySem.W.fnOf x qual (ua st) (vD st) (qf st) .none kV doc pm an cdv ct):=⟨⟨oc,od,kV,doc,pm,an,cdv,ct,osl,rfl,l,c⟩,k⟩
end
section
variable {X:Cx}
theorem pv (i:Nat) {x:Str} {pos:Pos} (hN:X.N[i]?=some x:=by rfl) (hv:Vis X.env.scope x:=by first | exact Or.inl rfl | exact Or.inr (Or.inl rfl) | exact Or.inr (Or.inr rfl)) (hd:(x == ("__debug__":Str))=false:=by decide)
  (hcd:(x == ("__classdict__":Str))=false:=by decide):PE X (.Name x pos) (qd4 i):=wa hN hv hd hcd
end
def Same (H H':Hp):Prop:=∀ b o,H b=some o->H' b=some o
theorem Same.refl (H:Hp):Same H H:=fun _ _ h=>h
theorem Same.trans {H H1 H2:Hp} (a:Same H H1) (b:Same H1 H2):Same H H2:=fun c o h=>b c o (a c o h)
theorem Same.free {H H':Hp} (e:Same H H') {l:Addr} (h:H' l=Option.none):H l=Option.none:=by
 cases q:H l with
 | none=>rfl
 | some o=>
  rw [e l o q] at h
  cases h
theorem Same.seq {K:Frag} {H H':Hp} {a:Addr} {xs:List V} (e:Same H H') (h:SqL K H a xs):SqL K H' a xs:=by
 rcases h with (h | ⟨o,h⟩) | h
 ·exact .inl (.inl (e _ _ h))
 ·exact .inl (.inr ⟨o,e _ _ h⟩)
 ·exact .inr h
section
variable {κ:Type} [DecidableEq κ]
noncomputable def JK (kvs:List (κ×V)) (k:κ):Option V:=(kvs.find? fun kv=>decide (kv.1=k)).map (·.2)
noncomputable def zE (kvs:List (κ×V)) (k:κ) (v:V):List (κ×V):=
 if (kvs.any fun kv=>decide (kv.1=k))=true then kvs.map (fun kv=>if kv.1=k then (kv.1,v) else kv) else kvs++[(k,v)]
theorem yZ {p:κ×V} {r:List (κ×V)} {k:κ} (e:p.1=k):JK (p::r) k=some p.2:=by simp [JK,List.find?_cons,e]
theorem uq {p:κ×V} {r:List (κ×V)} {k:κ} (e:¬p.1=k):JK (p::r) k=JK r k:=by simp [JK,List.find?_cons,e]
theorem gp (k:κ):∀ kvs:List (κ×V),(kvs.any fun kv=>decide (kv.1=k))=(JK kvs k).isSome
 | []=>rfl
 | p::r=>by
  rw [List.any_cons]
  by_cases e:p.1=k
  ·simp only [yZ e,decide_eq_true e,Bool.true_or,Option.isSome_some]
  ·rw [uq e,decide_eq_false e,Bool.false_or]; exact gp k r
theorem ub (kvs:List (κ×V)) (k:κ) (v:V):(zE kvs k v).length<=kvs.length+1:=by
 unfold zE
 split
 ·rw [List.length_map]; omega
 ·rw [List.length_append,List.length_cons,List.length_nil]; omega
theorem RelO.isSome_eq {o:Option V} {u:Option Value} (r:RelO o u):o.isSome=u.isSome:=by
 cases o with
 | none=>cases u with
  | none=>rfl
  | some _=>exact (show False from r).elim
 | some _=>cases u with
  | none=>exact (show False from r).elim
  | some _=>rfl
theorem RelO.getD {o:Option V} {u:Option Value} {d:V} {d':Value} (r:RelO o u) (rd:RelV d d'):RelV (o.getD d) (u.getD d'):=by
 cases o with
 | none=>cases u with
  | none=>exact rd
  | some _=>exact (show False from r).elim
 | some _=>cases u with
  | none=>exact (show False from r).elim
  | some _=>exact r
theorem KV.val {kvs:List (κ×V)} {vs:List (κ×Value)} (r:KV kvs vs) (k:κ):RelO (JK kvs k) (valueAt vs k):=by
 unfold KV at r
 induction r with
 | nil=>exact True.intro
 | @cons p q ps qs h t ih=>
  obtain ⟨h1,h2⟩:=h
  by_cases e:p.1=k
  ·have e':q.1=k:=h1.symm.trans e
   have b:valueAt (q::qs) k=some q.2:=by simp [valueAt,List.find?_cons,e']
   rw [yZ e,b]; exact h2
  ·have e':¬q.1=k:=fun z=>e (h1.trans z)
   have b:valueAt (q::qs) k=valueAt qs k:=by simp [valueAt,List.find?_cons,e']
   rw [uq e,b]; exact ih
theorem KV.any {kvs:List (κ×V)} {vs:List (κ×Value)} (r:KV kvs vs) (k:κ):(kvs.any fun kv=>decide (kv.1=k))=vs.any fun kv=>decide (kv.1=k):=by
 unfold KV at r
 induction r with
 | nil=>rfl
 | cons h t ih=>rw [List.any_cons,List.any_cons,ih,h.1]
theorem KV.repl {kvs:List (κ×V)} {vs:List (κ×Value)} (r:KV kvs vs) (k:κ) {y:V} {u:Value} (ry:RelV y u) :
  KV (kvs.map fun kv=>if kv.1=k then (kv.1,y) else kv) (vs.map fun kv=>if kv.1=k then (kv.1,u) else kv):=by
 unfold KV at r ⊢
 induction r with
 | nil=>exact .nil
 | @cons p q ps qs h t ih=>
  rw [List.map_cons,List.map_cons]
  refine .cons ?_ ih
  obtain ⟨h1,h2⟩:=h
  by_cases e:p.1=k
  ·rw [if_pos e,if_pos (h1.symm.trans e)]; exact ⟨h1,ry⟩
  ·rw [if_neg e,if_neg (fun z=>e (h1.trans z))]; exact ⟨h1,h2⟩
theorem KV.put {kvs:List (κ×V)} {vs:List (κ×Value)} (r:KV kvs vs) (k:κ) {y:V} {u:Value} (ry:RelV y u):KV (zE kvs k y) (stored vs k u):=by
 unfold zE stored
 rw [r.any k]
 by_cases e:(vs.any fun kv=>decide (kv.1=k))=true
 ·rw [if_pos e,if_pos e]; exact r.repl k ry
 ·rw [if_neg e,if_neg e]; exact Paired.snoc r ⟨rfl,ry⟩
theorem KV.keys {kvs:List (κ×V)} {vs:List (κ×Value)} (r:KV kvs vs):kvs.map (·.1)=vs.map (·.1):=by
 unfold KV at r
 induction r with
 | nil=>rfl
 | cons h t ih=>rw [List.map_cons,List.map_cons,ih,h.1]
theorem KV.length {kvs:List (κ×V)} {vs:List (κ×Value)} (r:KV kvs vs):kvs.length=vs.length:=Paired.length r
end
theorem Wz {P:Program} {w:World} {k:Key} {u:Value} (r:RelV (kV k) u):(qS P w).is k u=true:=by
 cases k with
 | inl i=>obtain ⟨t,e⟩:=(show ∃ t,u=Value.int i t from r); subst e; exact JR P w i t
 | inr x=>obtain ⟨t,e⟩:=(show ∃ t,u=Value.str x t from r); subst e; exact JS P w x t
theorem QN {P:Program} {w:World}:∀ {ks:List Key} {us:List Value},Vals (ks.map kV) us->ItemsAre (qS P w) ks us
 | [],_,r=>by rw [List.map_nil] at r; cases r; exact .nil
 | k::ks,_,r=>by
  rw [List.map_cons] at r
  cases r with
  | cons h t=>exact .cons (Wz h) (QN t)
abbrev KT (H:Hp):List (List Key×V)->List (List Key×Addr×Value)->Prop:=Paired fun p q=>p.1=q.1/\H q.2.1=some (.tup (p.1.map kV))/\RelV p.2 q.2.2
theorem KT.val {H:Hp} {kvs:List (List Key×V)} {xs:List (List Key×Addr×Value)} (r:KT H kvs xs) (k:List Key):RelO (JK kvs k) ((atKey xs k).map (·.2)):=by
 induction r with
 | nil=>exact True.intro
 | @cons p q ps qs h t ih=>
  obtain ⟨h1,_,h2⟩:=h
  by_cases e:p.1=k
  ·have e':q.1=k:=h1.symm.trans e
   have b:atKey (q::qs) k=some q.2:=by simp [atKey,List.find?_cons,e']
   rw [yZ e,b]; exact h2
  ·have e':¬q.1=k:=fun z=>e (h1.trans z)
   have b:atKey (q::qs) k=atKey qs k:=by simp [atKey,List.find?_cons,e']
   rw [uq e,b]; exact ih
theorem KT.repl {H:Hp} {kvs:List (List Key×V)} {xs:List (List Key×Addr×Value)} (r:KT H kvs xs) (k:List Key) {y:V} {u:Value} (ry:RelV y u) :
  KT H (kvs.map fun kv=>if kv.1=k then (kv.1,y) else kv) (xs.map (putAt k u)):=by
 induction r with
 | nil=>exact .nil
 | @cons p q ps qs h t ih=>
  rw [List.map_cons,List.map_cons]
  refine .cons ?_ ih
  obtain ⟨h1,h2,h3⟩:=h
  unfold putAt
  by_cases e:p.1=k
  ·rw [if_pos e,if_pos (h1.symm.trans e)]; exact ⟨h1,h2,ry⟩
  ·rw [if_neg e,if_neg (fun z=>e (h1.trans z))]; exact ⟨h1,h2,h3⟩
theorem KT.put {H:Hp} {kvs:List (List Key×V)} {xs:List (List Key×Addr×Value)} (r:KT H kvs xs) (k:List Key) {b:Addr} {y:V} {u:Value} (hb:H b=some (.tup (k.map kV))) (ry:RelV y u) :
  KT H (zE kvs k y) (storedH xs k b u):=by
 have e:(kvs.any fun kv=>decide (kv.1=k))=(atKey xs k).isSome:=by
  rw [gp,(r.val k).isSome_eq,Option.isSome_map]
 unfold zE storedH
 rw [e]
 by_cases q:(atKey xs k).isSome=true
 ·rw [if_pos q,if_pos q]; exact r.repl k ry
 ·rw [if_neg q,if_neg q]; exact Paired.snoc r ⟨rfl,hb,ry⟩
theorem KT.keeps {H H':Hp} {kvs:List (List Key×V)} {xs:List (List Key×Addr×Value)} (r:KT H kvs xs) (ht:∀ b ys,H b=some (.tup ys)->H' b=some (.tup ys)):KT H' kvs xs:=
 Paired.mapP r fun _ _ z=>⟨z.1,ht _ _ z.2.1,z.2.2⟩
section
variable {P:Program} {w:World} {H:Hp} {h:Heap} {a:Addr}
theorem qcw {u:HO} (ok:HOk P w H h) (e:Rd H a u):ObjOk P w H h a u:=e.ok ok
theorem QO {kvs:List (Key×V)} (ok:HOk P w H h) (e:Rd H a (.dK kvs)):kvs.length<=sizeLine/\(a == sysModules)=false/\∃ vs,KV kvs vs/\h.DictOf (qS P w) a vs:=
 show ObjOk P w H h a (.dK kvs) from qcw ok e
theorem qeu {kvs:List (Key×V)} (ok:HOk P w H h) (e:H a=some (.dK kvs)):kvs.length<=sizeLine/\(a == sysModules)=false/\∃ vs,KV kvs vs/\h.DictOf (qS P w) a vs:=QO ok (.inl e)
theorem yD {ks:List Key} (ok:HOk P w H h) (e:H a=some (.tup (ks.map kV))):(tupleKind (qS P w)).is h ks a:=by
 obtain ⟨_,its,r,o,h1,h2,n,h3⟩:=(show ObjOk P w H h a (.tup (ks.map kV)) from ok a _ e)
 exact ⟨o,its.toArray,n,h1,h2,h3,by simpa using QN r⟩
theorem JX {kvs:List (List Key×V)} (ok:HOk P w H h) (e:Rd H a (.dT kvs)):kvs.length<=sizeLine/\(a == sysModules)=false /\
  ∃ xs,KT H kvs xs/\h.DictOfH (tupleKind (qS P w)) a xs:=by
 obtain ⟨z,y,xs,r,o,es,ep,h1,h2,h3,h4,h5⟩:=(show ObjOk P w H h a (.dT kvs) from qcw ok e)
 refine ⟨z,y,xs,r,o,es,ep,h1,h2,h3,h4,fun x hx=>?_,h5⟩
 have all:∀ {l:List (List Key×V)} {m:List (List Key×Addr×Value)},KT H l m->∀ x∈m,(tupleKind (qS P w)).is h x.1 x.2.1:=by
  intro l m q
  induction q with
  | nil=>intro x hx; exact nomatch hx
  | @cons p q ps qs hq t ih=>
   intro x hx
   rcases List.mem_cons.mp hx with e | hx
   ·subst e
    exact yD ok (by rw [<-hq.1]; exact hq.2.1)
   ·exact ih x hx
 exact all r x hx
theorem qev {kvs:List (List Key×V)} (ok:HOk P w H h) (e:H a=some (.dT kvs)):kvs.length<=sizeLine/\(a == sysModules)=false /\
  ∃ xs,KT H kvs xs/\h.DictOfH (tupleKind (qS P w)) a xs:=JX ok (.inl e)
end
def DGet (H:Hp) (a:Addr) (y:V) (r:Option V):Prop:=
 (∃ kvs k,Rd H a (.dK kvs)/\y=kV k/\r=JK kvs k)\/∃ kvs k b,Rd H a (.dT kvs)/\y=.ref b/\H b=some (.tup (k.map kV))/\r=JK kvs k
def DPut (H:Hp) (a:Addr) (y v:V) (H':Hp):Prop:=
 (∃ kvs k,H a=some (.dK kvs)/\y=kV k/\kvs.length < sizeLine/\H'=upd H a (.dK (zE kvs k v))) \/
 ∃ kvs k b,H a=some (.dT kvs)/\y=.ref b/\H b=some (.tup (k.map kV))/\kvs.length < sizeLine/\H'=upd H a (.dT (zE kvs k v))
theorem DGet.k {H:Hp} {a:Addr} {kvs:List (Key×V)} {k:Key} (e:H a=some (.dK kvs)):DGet H a (kV k) (JK kvs k):=.inl ⟨kvs,k,.inl e,rfl,rfl⟩
theorem DGet.t {H:Hp} {a b:Addr} {kvs:List (List Key×V)} {k:List Key} (e:H a=some (.dT kvs)) (eb:H b=some (.tup (k.map kV))):DGet H a (.ref b) (JK kvs k):=.inr ⟨kvs,k,b,.inl e,rfl,eb,rfl⟩
theorem DPut.k {H:Hp} {a:Addr} {kvs:List (Key×V)} {k:Key} {v:V} (e:H a=some (.dK kvs)) (hl:kvs.length < sizeLine):DPut H a (kV k) v (upd H a (.dK (zE kvs k v))):=.inl ⟨kvs,k,e,rfl,hl,rfl⟩
theorem DPut.t {H:Hp} {a b:Addr} {kvs:List (List Key×V)} {k:List Key} {v:V} (e:H a=some (.dT kvs)) (eb:H b=some (.tup (k.map kV))) (hl:kvs.length < sizeLine) :
  DPut H a (.ref b) v (upd H a (.dT (zE kvs k v))):=.inr ⟨kvs,k,b,e,rfl,eb,hl,rfl⟩
section
variable {X:Cx} {pins:List (Addr×Obj)} {σ:St} {H:Hp} {s:Shared} {a:Addr} {y v:V} {u r:Value} {o:Option V} {A:Around} {E:Value->Shared->Prop}
theorem Inv.big (I:Inv X pins σ H s):sysModules < s.heap.objs.size:=by
 have h:mainGlobals < s.heap.objs.size:=(I.mod.glob.keeps I.bk).lt
 exact Nat.lt_trans (by decide) h
theorem UA {Q:Value->Shared->Prop} (hu:A.units+1 < cLine) (I:Inv X pins σ H s) (g:DGet H a y (some v)) (ry:RelV y u) (h:∀ w' s',Inv X pins σ H s'->RelV v w'->Q w' s') :
  wpAny (model X.prog X.w) A (getItem (.ref a) u) Q E s:=by
 rcases g with ⟨kvs,k,e,ey,l⟩ | ⟨kvs,k,b,e,ey,eb,l⟩
 ·subst ey
  obtain ⟨z,hd,vs,rel,dd⟩:=QO I.hok e
  obtain ⟨w',hw,rw'⟩:=RelO.some_of (v:=v) (o:=valueAt vs k) (by rw [l]; exact rel.val k)
  exact wpAny_getItem_of (Wz ry) dd.mapOf hw (h w' _ (I.tok _) rw')
 ·subst ey
  cases (show u=Value.ref b from ry)
  obtain ⟨z,hd,xs,rel,dd⟩:=JX I.hok e
  obtain ⟨w',hw,rw'⟩:=RelO.some_of (v:=v) (o:=(atKey xs k).map (·.2)) (by rw [l]; exact rel.val k)
  obtain ⟨p,hp,hp2⟩:=Option.map_eq_some_iff.mp hw
  refine wpAny_getItem_heap (tupleKind_room_in1 hu) (yD I.hok eb) dd hp ?_
  rw [hp2]
  exact h w' _ (I.tok _) rw'
theorem qfN {Q:Value->Shared->Prop} (hu:A.units+1 < cLine) (I:Inv X pins σ H s) (g:DGet H a y o) (ry:RelV y u) (h:∀ s',Inv X pins σ H s'->Q (.bool o.isSome) s') :
  wpAny (model X.prog X.w) A (compareOp .In u (.ref a)) Q E s:=by
 rcases g with ⟨kvs,k,e,ey,l⟩ | ⟨kvs,k,b,e,ey,eb,l⟩
 ·subst ey
  obtain ⟨z,hd,vs,rel,dd⟩:=QO I.hok e
  refine wpAny_in_of (Wz ry) hd dd.mapOf ?_
  rw [<-(rel.val k).isSome_eq,<-l]
  exact h _ (I.tok _)
 ·subst ey
  cases (show u=Value.ref b from ry)
  obtain ⟨z,hd,xs,rel,dd⟩:=JX I.hok e
  refine wpAny_in_heap (tupleKind_room_in1 hu) (yD I.hok eb) hd dd ?_
  have q:=(rel.val k).isSome_eq
  rw [Option.isSome_map] at q
  rw [<-q,<-l]
  exact h _ (I.tok _)
theorem qaH {Q:Value->Shared->Prop} (hu:A.units+1 < cLine) (I:Inv X pins σ H s) (g:DGet H a y o) (ry:RelV y u) (h:∀ s',Inv X pins σ H s'->Q (.bool (!o.isSome)) s') :
  wpAny (model X.prog X.w) A (compareOp .NotIn u (.ref a)) Q E s:=by
 rcases g with ⟨kvs,k,e,ey,l⟩ | ⟨kvs,k,b,e,ey,eb,l⟩
 ·subst ey
  obtain ⟨z,hd,vs,rel,dd⟩:=QO I.hok e
  refine wpAny_notIn_of (Wz ry) hd dd.mapOf ?_
  rw [<-(rel.val k).isSome_eq,<-l]
  exact h _ (I.tok _)
 ·subst ey
  cases (show u=Value.ref b from ry)
  obtain ⟨z,hd,xs,rel,dd⟩:=JX I.hok e
  refine wpAny_notIn_heap (tupleKind_room_in1 hu) (yD I.hok eb) hd dd ?_
  have q:=(rel.val k).isSome_eq
  rw [Option.isSome_map] at q
  rw [<-q,<-l]
  exact h _ (I.tok _)
theorem UB {h':Heap} {t':Nat} {ob:HO} (I:Inv X pins σ H s) (mu:Mut (H a)) (hs:Heap.SameBut a s.heap h') (he:∃ q,h'.get? a=some q) (new:ObjOk X.prog X.w (upd H a ob) h' a ob) :
  Inv X pins σ (upd H a ob) { s with heap:=h',toks:=t' }:=
 I.write (x:=a) (e:=a) mu (.inl rfl) (fun b q hb z=>(hs.2 b hb).trans z) he new
theorem GN {P:Program} {w:World} {H':Hp} {h':Heap} {kvs:List (Key×V)} {vs:List (Key×Value)} (z:kvs.length<=sizeLine) (hd:(a == sysModules)=false) (rel:KV kvs vs) (dd:h'.DictOf (qS P w) a vs) :
  ObjOk P w H' h' a (.dK kvs):=⟨z,hd,vs,rel,dd⟩
theorem UC {H':Hp} {Q:Unit->Shared->Prop} (hu:A.units+1 < cLine) (I:Inv X pins σ H s) (g:DPut H a y v H') (ry:RelV y u) (rv:RelV v r) (h:∀ s',Inv X pins σ H' s'->Q () s') :
  wpAny (model X.prog X.w) A (setItem (.ref a) u r) Q E s:=by
 rcases g with ⟨kvs,k,e,ey,l,eH⟩ | ⟨kvs,k,b,e,ey,eb,l,eH⟩
 ·subst ey eH
  obtain ⟨z,hd,vs,rel,dd⟩:=qeu I.hok e
  have hz:vs.length<=sizeLine:=by rw [<-rel.length]; exact z
  have hl:(zE kvs k v).length<=sizeLine:=by have:=ub kvs k v; omega
  refine wpAny_setItem_pairs (hsz:=hz) (Wz ry) dd fun h' dd' hs=>h _ ?_
  have he:∃ q,h'.get? a=some q:=let ⟨q,_,_,hq,_⟩:=dd'; ⟨q,hq⟩
  exact UB I (by rw [e]; exact True.intro) hs he (GN hl hd (rel.put k rv) dd')
 ·subst ey eH
  cases (show u=Value.ref b from ry)
  obtain ⟨z,hd,xs,rel,dd⟩:=qev I.hok e
  have hz:xs.length<=sizeLine:=by rw [<-Paired.length rel]; exact z
  have hl:(zE kvs k v).length<=sizeLine:=by have:=ub kvs k v; omega
  refine wpAny_setItem_heap (hsz:=hz) (tupleKind_room_in1 hu) (yD I.hok eb) dd fun h' dd' hs=>h _ ?_
  obtain ⟨q,es,ep,hq,h2,h3,h4,_,h5⟩:=dd'
  refine UB I (by rw [e]; exact True.intro) hs ⟨q,hq⟩ ⟨hl,hd,_,(rel.put k eb rv).keeps fun c ys ec=>?_,q,es,ep,hq,h2,h3,h4,h5⟩
  rw [qA (qd3 ec e (fun z=>nomatch z))]
  exact ec
end
section
variable {X:Cx} {pins:List (Addr×Obj)} {σ:St} {H:Hp} {s:Shared} {a:Addr} {kvs:List (Key×V)} {k:Key} {u:Value} {A:Around} {E:Value->Shared->Prop}
theorem qew {Q:Value->Shared->Prop} (I:Inv X pins σ H s) (e:Rd H a (.dK kvs)) (h:∀ t s',Inv X pins σ H s'->Q (.int kvs.length t) s'):wpAny (model X.prog X.w) A (call (.builtin "len") [.ref a]) Q E s:=by
 obtain ⟨z,hd,vs,rel,dd⟩:=QO I.hok e
 refine call_len_dict hd dd (by rw [<-rel.length]; rw [sizeLine_eq] at z; omega) ?_
 rw [<-rel.length]
 exact h _ _ (I.tok _)
end
theorem JY {X:Cx} {pins:List (Addr×Obj)} {σ:St} {H:Hp} {s:Shared} {a:Addr} {y:V} {o:Option V} (I:Inv X pins σ H s) (g:DGet H a y o):s.TypeIs (.ref a) "dict":=by
 rcases g with ⟨kvs,k,e,_,_⟩ | ⟨kvs,k,b,e,_,_,_⟩
 ·obtain ⟨_,_,vs,_,dd⟩:=QO I.hok e
  exact dd.typeIs
 ·obtain ⟨_,_,xs,_,dd⟩:=JX I.hok e
  exact dd.typeIs
def qex (td ty tv:TE):TS:=fun D σ H=>tv σ H fun v H1=>td σ H1 fun x H2=>ty σ H2 fun y H3=>∃ a H4,x=.ref a/\DPut H3 a y v H4/\D.nx σ H4
section
variable {X:Cx} {o i e value:Expr} {pos pos' tpos:Pos} {td ty tv:TE}
theorem qaI (hu:X.A.units+1 < cLine) (ho:PE X o td) (hi:PE X i ty) (hv:PE X value tv) (hs:swapsWith value (some (.Subscript o i pos')) pos.line X.env=pure false) :
  PS X (.Assign [.Subscript o i pos'] value pos) (qex td ty tv):=by
 refine ⟨?_⟩
 intro pins s σ H D I h
 refine wpAny_Assign_Subscript (thn (hv pins s σ H _ I h) fun r s1 ⟨v,H1,I1,rv,q1⟩=>thn (ho pins s1 σ H1 _ I1 q1) fun u s2 ⟨x,H2,I2,rx,q2⟩=>thn (hi pins s2 σ H2 _ I2 q2) fun iv s3 ⟨y,H3,I3,ry,a,H4,ex,g,q3⟩=>?_) hs
 subst ex
 obtain rfl:u=Value.ref a:=rx
 exact UC hu I3 g ry rv fun s4 I4=>⟨σ,H4,I4,q3⟩
end
theorem Zc {P:Program} {w:World} {H:Hp} (h:Heap) (hb:sysModules < h.objs.size):ObjOk P w H (h.push { cls:=.type "dict",data:=.dict #[] }) h.objs.size (.dK []):=
 ⟨Nat.zero_le _,beq_eq_false_iff_ne.mpr (Ne.symm (Nat.ne_of_lt hb)),[],.nil,Heap.DictOf.new h⟩
def qcx:TE:=fun _ H Q=>∀ p,H p=none->Q (.ref p) (upd H p (.dK []))
section
variable {X:Cx} {pos:Pos}
theorem Zd:PE X (.Dict [] [] pos) qcx:=⟨fun pins s σ H Q I h=>
 wpAny_Dict_empty ⟨.ref s.heap.objs.size,_,I.laid (a:=s.heap.objs.size) (o:=.dK []) (t':=s.toks) (fun _ _ q=>Heap.get?_push_of_some _ q) (Nat.le_refl _) (Zc s.heap I.big),rfl,h _ (I.hok.fresh (Nat.le_refl _))⟩⟩
end
structure M1 (X:Cx) (o:Expr) (m:Str) (apos:Pos) (e:Expr) (cpos:Pos):Prop where
 base:attributeBase o m X.env (eval o X.env)=eval o X.env
 few:((backTo cpos (starEach [e] X.env)).all (fun x=>!x.1)&&(backToKw cpos (keywordEach [] X.env)).all (fun x=>x.1.isSome)
  && decide (([e]:List Expr).length+([]:List Keyword).length+(if ([]:List Keyword).isEmpty then 0 else 1) < 30))=true
 line:(apos.endLine == cpos.line)=true
 trees:backTo cpos (starEach [e] X.env)=[(false,eval e X.env)]
structure M2 (X:Cx) (o:Expr) (m:Str) (apos:Pos) (e f:Expr) (cpos:Pos):Prop where
 base:attributeBase o m X.env (eval o X.env)=eval o X.env
 few:((backTo cpos (starEach [e,f] X.env)).all (fun x=>!x.1)&&(backToKw cpos (keywordEach [] X.env)).all (fun x=>x.1.isSome)
  && decide (([e,f]:List Expr).length+([]:List Keyword).length+(if ([]:List Keyword).isEmpty then 0 else 1) < 30))=true
 line:(apos.endLine == cpos.line)=true
 trees:backTo cpos (starEach [e,f] X.env)=[(false,eval e X.env),(false,eval f X.env)]
def IsD (H:Hp) (a:Addr):Prop:=(∃ kvs,Rd H a (.dK kvs))\/∃ kvs,Rd H a (.dT kvs)
theorem qcy {X:Cx} {pins:List (Addr×Obj)} {σ:St} {H:Hp} {s:Shared} {a:Addr} (I:Inv X pins σ H s) (d:IsD H a) :
  s.TypeIs (.ref a) "dict"/\(∀ b,Value.ref a=.ref b->∃ ob,s.heap.get? b=some ob/\ob.dict=none)/\(a == sysModules)=false:=by
 rcases d with ⟨kvs,e⟩ | ⟨kvs,e⟩
 ·obtain ⟨_,hd,vs,_,dd⟩:=QO I.hok e
  refine ⟨dd.typeIs,fun b q=>?_,hd⟩
  cases q
  obtain ⟨ob,_,_,h1,h2,_⟩:=dd
  exact ⟨ob,h1,h2.2.1⟩
 ·obtain ⟨_,hd,xs,_,dd⟩:=JX I.hok e
  refine ⟨dd.typeIs,fun b q=>?_,hd⟩
  cases q
  obtain ⟨ob,_,_,h1,h2,_⟩:=dd
  exact ⟨ob,h1,h2.2.1⟩
section
variable {X:Cx} {pins:List (Addr×Obj)} {σ:St} {H:Hp} {s:Shared} {a:Addr} {y d:V} {u r:Value} {o:Option V} {A:Around} {E:Value->Shared->Prop}
theorem qcz {Q:Value->Shared->Prop} (hu:A.units+1 < cLine) (I:Inv X pins σ H s) (g:DGet H a y o) (ry:RelV y u) (rd:RelV d r) (h:∀ w' s',Inv X pins σ H s'->RelV (o.getD d) w'->Q w' s') :
  wpAny (model X.prog X.w) A (call (.builtin "dict.get") [.ref a,u,r]) Q E s:=by
 rcases g with ⟨kvs,k,e,ey,l⟩ | ⟨kvs,k,b,e,ey,eb,l⟩
 ·subst ey
  obtain ⟨z,hd,vs,rel,dd⟩:=QO I.hok e
  refine call_meetsIn PySem.F.slot_dict_get dd.typeIs PySem.F.entry_dict_get (PySem.F.args_dict_get_3 _ _ _) (meets_dict_get_default (qS X.prog X.w) a (Wz ry) hd r) ⟨_,dd.mapOf,h _ _ (I.tok _) ?_⟩
  rw [l]
  exact (rel.val k).getD rd
 ·subst ey
  cases (show u=Value.ref b from ry)
  obtain ⟨z,hd,xs,rel,dd⟩:=JX I.hok e
  refine call_meetsIn PySem.F.slot_dict_get dd.typeIs PySem.F.entry_dict_get (PySem.F.args_dict_get_3 _ _ _) (meetsH_dict_get_default (tupleKind (qS X.prog X.w)) a b hd r) ⟨tupleKind_room_in1 hu,k,xs,yD I.hok eb,dd,h _ _ (I.tok _) ?_⟩
  rw [l]
  exact (rel.val k).getD rd
end
def qcA (td ty tx:TE):TE:=fun σ H Q=>td σ H fun x H1=>∃ a,x=.ref a/\IsD H1 a/\ty σ H1 fun y H2=>tx σ H2 fun z H3=>∃ o,DGet H3 a y o/\Q (o.getD z) H3
section
variable {X:Cx} {o e f:Expr} {apos cpos:Pos} {td ty tx:TE}
theorem Ze (hu:X.A.units+1 < cLine) (ho:PE X o td) (he:PE X e ty) (hf:PE X f tx) (m:M2 X o "get" apos e f cpos):PE X (.Call (.Attribute o "get" apos) [e,f] [] cpos) (qcA td ty tx):=by
 refine ⟨?_⟩
 intro pins s σ H Q I h
 refine wpAny_Call_method m.base m.few m.line PySem.F.plainAttrs_dict PySem.F.slot_dict_get PySem.F.type_dict_get (thn (ho pins s σ H _ I h) fun u s1 ⟨x,H1,I1,rx,a,ex,d,q1⟩=>?_)
 subst ex
 obtain rfl:u=Value.ref a:=rx
 obtain ⟨t1,t2,_⟩:=qcy I1 d
 refine ⟨t1,t2,?_⟩
 rw [m.trees]
 refine Calls.callWith_builtin rfl (Calls.evalArgs_plain (Calls.spliced_cons (thn (he pins s1 σ H1 _ I1 q1) fun iv s2 ⟨y,H2,I2,ry,q2⟩=>
  Calls.spliced_cons (thn (hf pins s2 σ H2 _ I2 q2) fun fv s3 ⟨z,H3,I3,rz,ov,g,q3⟩=>Calls.spliced_nil ?_))))
 exact qcz hu I3 g ry rz fun w' s4 I4 rw'=>⟨_,H3,I4,rw',q3⟩
end
section
variable {X:Cx}
theorem UD:wS X (.builtin "len") (fun xs H Q=>∃ a kvs,xs=[V.ref a]/\H a=some (.dK kvs)/\Q (.int kvs.length) H):=by
 intro pins s σ H xs us Q I r h
 obtain ⟨a,kvs,rfl,ha,q⟩:=h
 obtain ⟨u,rfl,ru⟩:=wZ r
 cases ru
 exact qew I (.inl ha) fun t s' I'=>⟨.int kvs.length,H,I',⟨t,rfl⟩,q⟩
end
end L2
namespace L2.D2
open PySem PySem.Spec PyProof.Rows
theorem xz {a b:List Nat} (h:(a.all fun i=>decide (i∈b))=true):∀ i∈a,i∈b:=fun i hi=>of_decide_eq_true (List.all_eq_true.mp h i hi)
theorem Vj {i:Nat} {b:List Nat} (h:decide (i∈b)=false):i∉b:=of_decide_eq_false h
noncomputable def UE:Expr->Bool
 | .Starred ..=>false
 | _=>true
theorem kw {e:Expr} {es:List Expr} {env:Env} (h:UE e=true):starEach (e::es) env=(false,eval e env)::starEach es env:=by cases e <;> first | rfl | cases h
theorem qU {e:Expr} {env:Env} (h:UE e=true):starEach [e] env=[(false,eval e env)]:=kw h
theorem gq {pos:Pos} {env:Env}:∀ {es:List Expr},es.all UE=true->(backTo pos (starEach es env)).any (·.1)=false
 | [],_=>rfl
 | e::es,h=>by
  rw [List.all_cons,Bool.and_eq_true] at h
  rw [kw h.1]
  exact gq h.2
theorem ur {pos:Pos} {env:Env} {e:Expr} (h:UE e=true):((backTo pos (starEach [e] env)).all (fun x=>!x.1)&&(backToKw pos (keywordEach [] env)).all (fun x=>x.1.isSome)
   && decide ([e].length+([]:List Keyword).length+(if ([]:List Keyword).isEmpty then 0 else 1) < 30))=true:=by rw [qU h]; rfl
inductive D where
 | non | bl (b:Bool) | int (i:Int) | str (x:Str)
 | tup (xs:List D) | lst (xs:List D) | dct (kvs:List (Key×D)) | raw (v:V)
 | xcp (C:Addr) | ins (C:Addr) (fs:List (Str×D)) | at_ (a:Addr) (xs:List D)
 deriving Inhabited
abbrev Sl:=List (Option D)
inductive Out (α:Type) where
 | ok (a:α) | exc (c:Str) (o:Sl) | bad
noncomputable def Out.bind {α β:Type} (o:Out α) (k:α->Out β):Out β:=match o with
 | .ok a=>k a
 | .exc c o=>.exc c o
 | .bad=>.bad
@[simp] theorem Out.ok_bind {α β:Type} (a:α) (k:α->Out β):(Out.ok a).bind k=k a:=rfl
@[simp] theorem Out.exc_bind {α β:Type} (c:Str) (o:Sl) (k:α->Out β):(Out.exc c o:Out α).bind k=.exc c o:=rfl
@[simp] theorem Out.bad_bind {α β:Type} (k:α->Out β):(Out.bad:Out α).bind k=.bad:=rfl
noncomputable def qfO (a C:Addr):HO:=.ext fun h=>∃ oe vs,h.get? a=some oe/\oe.cls=.ref C/\oe.data=.fields vs
mutual
/-- the value v is the data d,all its objects in F -/
inductive Is (K:Frag) (F:Hp):V->D->Prop
 | non:Is K F .non .non
 | bl (b:Bool):Is K F (.bl b) (.bl b)
 | int (i:Int):Is K F (.int i) (.int i)
 | str {x:Str} (h:x.length<=sizeLine):Is K F (.str x) (.str x)
 | tup {a:Addr} {xs:List V} {ds:List D} (h:SqT K F a xs) (t:IsL K F xs ds):Is K F (.ref a) (.tup ds)
 | lst {a:Addr} {xs:List V} {ds:List D} (h:SqL K F a xs) (t:IsL K F xs ds):Is K F (.ref a) (.lst ds)
 | dct {a:Addr} {kv:List (Key×V)} {kvs:List (Key×D)} (h:F a=some (.dK kv)) (t:IsK K F kv kvs):Is K F (.ref a) (.dct kvs)
 | raw (v:V):Is K F v (.raw v)
 | xcp {a C:Addr} (h:F a=some (qfO a C)):Is K F (.ref a) (.xcp C)
 | ins {a C dx:Addr} {fv:List (Str×V)} {fs:List (Str×D)} (h:F a=some (.ins C dx fv)) (t:IsF K F fv fs):Is K F (.ref a) (.ins C fs)
 | at_ {a:Addr} {xs:List V} {ds:List D} (h:SqL K F a xs) (t:IsL K F xs ds):Is K F (.ref a) (.at_ a ds)
inductive IsL (K:Frag) (F:Hp):List V->List D->Prop
 | nil:IsL K F [] []
 | cons {v:V} {d:D} {vs:List V} {ds:List D} (h:Is K F v d) (t:IsL K F vs ds):IsL K F (v::vs) (d::ds)
inductive IsK (K:Frag) (F:Hp):List (Key×V)->List (Key×D)->Prop
 | nil:IsK K F [] []
 | cons {k:Key} {v:V} {d:D} {vs:List (Key×V)} {ds:List (Key×D)} (h:Is K F v d) (t:IsK K F vs ds):IsK K F ((k,v)::vs) ((k,d)::ds)
inductive IsF (K:Frag) (F:Hp):List (Str×V)->List (Str×D)->Prop
 | nil:IsF K F [] []
 | cons {k:Str} {v:V} {d:D} {vs:List (Str×V)} {ds:List (Str×D)} (h:Is K F v d) (t:IsF K F vs ds):IsF K F ((k,v)::vs) ((k,d)::ds)
end
theorem qF {K:Frag} {H H':Hp} {a:Addr} {xs:List V} (e:Same H H') (h:SqT K H a xs):SqT K H' a xs:=by
 rcases h with (h | ⟨o,h⟩) | h
 ·exact .inl (.inl (e _ _ h))
 ·exact .inl (.inr ⟨o,e _ _ h⟩)
 ·exact .inr h
mutual
theorem Is.mono {K:Frag} {F F':Hp} (e:Same F F'):∀ {v:V} {d:D},Is K F v d->Is K F' v d
 | _,_,.non=>.non
 | _,_,.bl b=>.bl b
 | _,_,.int i=>.int i
 | _,_,.str h=>.str h
 | _,_,.tup h t=>.tup (qF e h) (IsL.mono e t)
 | _,_,.lst h t=>.lst (e.seq h) (IsL.mono e t)
 | _,_,.dct h t=>.dct (e _ _ h) (IsK.mono e t)
 | _,_,.raw v=>.raw v
 | _,_,.xcp h=>.xcp (e _ _ h)
 | _,_,.ins h t=>.ins (e _ _ h) (IsF.mono e t)
 | _,_,.at_ h t=>.at_ (e.seq h) (IsL.mono e t)
theorem IsL.mono {K:Frag} {F F':Hp} (e:Same F F'):∀ {vs:List V} {ds:List D},IsL K F vs ds->IsL K F' vs ds
 | _,_,.nil=>.nil
 | _,_,.cons h t=>.cons (Is.mono e h) (IsL.mono e t)
theorem IsK.mono {K:Frag} {F F':Hp} (e:Same F F'):∀ {vs:List (Key×V)} {ds:List (Key×D)},IsK K F vs ds->IsK K F' vs ds
 | _,_,.nil=>.nil
 | _,_,.cons h t=>.cons (Is.mono e h) (IsK.mono e t)
theorem IsF.mono {K:Frag} {F F':Hp} (e:Same F F'):∀ {vs:List (Str×V)} {ds:List (Str×D)},IsF K F vs ds->IsF K F' vs ds
 | _,_,.nil=>.nil
 | _,_,.cons h t=>.cons (Is.mono e h) (IsF.mono e t)
end
theorem IsL.length {K:Frag} {F:Hp}:∀ {vs:List V} {ds:List D},IsL K F vs ds->vs.length=ds.length
 | _,_,.nil=>rfl
 | _,_,.cons _ t=>congrArg (·+1) (IsL.length t)
theorem IsL.get {K:Frag} {F:Hp}:∀ {vs:List V} {ds:List D} {i:Nat} {v:V},IsL K F vs ds->vs[i]?=some v->∃ d,ds[i]?=some d/\Is K F v d
 | _,_,_,_,.nil,e=>by simp at e
 | _,_,0,_,.cons h _,e=>by simp at e; subst e; exact ⟨_,rfl,h⟩
 | _,_,i+1,v,.cons _ t,e=>by
  obtain ⟨d,h1,h2⟩:=IsL.get (i:=i) (v:=v) t (by simpa using e)
  exact ⟨d,by simpa using h1,h2⟩
theorem IsL.getD {K:Frag} {F:Hp}:∀ {vs:List V} {ds:List D} {i:Nat} {d:D},IsL K F vs ds->ds[i]?=some d->∃ v,vs[i]?=some v/\Is K F v d
 | _,_,_,_,.nil,e=>by simp at e
 | _,_,0,_,.cons h _,e=>by simp at e; subst e; exact ⟨_,rfl,h⟩
 | _,_,i+1,v,.cons _ t,e=>by
  obtain ⟨d,h1,h2⟩:=IsL.getD (i:=i) (d:=v) t (by simpa using e)
  exact ⟨d,by simpa using h1,h2⟩
theorem IsL.append {K:Frag} {F:Hp}:∀ {vs ws:List V} {ds es:List D},IsL K F vs ds->IsL K F ws es->IsL K F (vs++ws) (ds++es)
 | _,_,_,_,.nil,s=>s
 | _,_,_,_,.cons h t,s=>.cons h (IsL.append t s)
theorem IsL.drop {K:Frag} {F:Hp}:∀ {vs:List V} {ds:List D} (n:Nat),IsL K F vs ds->IsL K F (vs.drop n) (ds.drop n)
 | _,_,0,r=>r
 | _,_,_+1,.nil=>.nil
 | _,_,n+1,.cons _ t=>IsL.drop n t
theorem IsL.take {K:Frag} {F:Hp}:∀ {vs:List V} {ds:List D} (n:Nat),IsL K F vs ds->IsL K F (vs.take n) (ds.take n)
 | _,_,0,_=>.nil
 | _,_,_+1,.nil=>.nil
 | _,_,n+1,.cons h t=>.cons h (IsL.take n t)
theorem IsL.set {K:Frag} {F:Hp} {v:V} {d:D} (h:Is K F v d):∀ {vs:List V} {ds:List D} (i:Nat),IsL K F vs ds->IsL K F (vs.set i v) (ds.set i d)
 | _,_,_,.nil=>.nil
 | _,_,0,.cons _ t=>.cons h t
 | _,_,i+1,.cons q t=>.cons q (IsL.set h i t)
def OwnIs (K:Frag) (F H:Hp) (a:Addr):D->Prop
 | .lst ds=>∃ xs,H a=some (.lst xs)/\IsL K F xs ds
 | .dct kvs=>∃ kv,H a=some (.dK kv)/\IsK K F kv kvs
 | .ins C fs=>∃ dx fv,H a=some (.ins C dx fv)/\IsF K F fv fs
 | .at_ b ds=>b=a/\∃ xs,H a=some (.lst xs)/\IsL K F xs ds
 | _=>False
def TopIs (K:Frag) (F H:Hp) (v:V) (d:D):Prop:=Is K F v d\/∃ a,v=.ref a/\OwnIs K F H a d
inductive Mo where
 | sh | fr | any
def MoIs (K:Frag) (m:Mo) (H0 F H:Hp) (v:V) (d:D):Prop:=match m with
 | .sh=>Is K F v d
 | .fr=>∃ a,v=.ref a/\H0 a=none/\F a=none/\OwnIs K F H a d
 | .any=>TopIs K F H v d
theorem MoIs.top {K:Frag} {m:Mo} {H0 F H:Hp} {v:V} {d:D} (h:MoIs K m H0 F H v d):TopIs K F H v d:=by
 cases m with
 | sh=>exact .inl h
 | fr=>obtain ⟨a,e,_,_,o⟩:=h; exact .inr ⟨a,e,o⟩
 | any=>exact h
structure Chg (A:Addr->Prop) (F H F' H':Hp):Prop where
 keep:∀ b o,H b=some o->¬A b->H' b=some o
 stay:∀ b,H b≠none->H' b≠none
 grow:Same F F'
 new:∀ b,F' b≠none->F b≠none\/H b=none\/A b
theorem Chg.refl {A:Addr->Prop} {F H:Hp}:Chg A F H F H:=⟨fun _ _ e _=>e,fun _ h=>h,Same.refl _,fun _ h=>.inl h⟩
theorem Chg.trans {A A1:Addr->Prop} {F H F1 H1 F2 H2:Hp} (a:Chg A F H F1 H1) (b:Chg A1 F1 H1 F2 H2) (hA:∀ x,A1 x->A x\/H x=none):Chg A F H F2 H2 where
 keep:=fun x o e n=>b.keep x o (a.keep x o e n) fun z=>(hA x z).elim n fun q=>by rw [e] at q; cases q
 stay:=fun x h=>b.stay x (a.stay x h)
 grow:=a.grow.trans b.grow
 new:=fun x h=>by
  rcases b.new x h with q | q | q
  ·exact a.new x q
  ·refine .inr (.inl ?_)
   cases e:H x with
   | none=>rfl
   | some o=>exact absurd q (a.stay x (by rw [e]; simp))
  ·rcases hA x q with z | z
   ·exact .inr (.inr z)
   ·exact .inr (.inl z)
theorem Chg.trans' {A:Addr->Prop} {F H F1 H1 F2 H2:Hp} (a:Chg A F H F1 H1) (b:Chg A F1 H1 F2 H2):Chg A F H F2 H2:=a.trans b fun _ z=>.inl z
theorem Chg.mono {A A':Addr->Prop} {F H F1 H1:Hp} (a:Chg A F H F1 H1) (h:∀ x,A x->A' x):Chg A' F H F1 H1:=
 ⟨fun b o e n=>a.keep b o e fun z=>n (h b z),a.stay,a.grow,fun b z=>(a.new b z).imp id (Or.imp id (h b))⟩
abbrev No:Addr->Prop:=fun _=>False
theorem Chg.ofNo {A:Addr->Prop} {F H F1 H1:Hp} (a:Chg No F H F1 H1):Chg A F H F1 H1:=a.mono fun _ z=>z.elim
structure Rep (K:Frag) (own:List Nat) (F H:Hp) (σ:St) (ρ:Sl):Prop where
 sub:Same F H
 len:σ.length=ρ.length
 val:∀ i d,i∉own->ρ[i]?=some (some d)->∃ v,σ[i]?=some (some v)/\Is K F v d
 ow:∀ i d,i∈own->ρ[i]?=some (some d)->∃ a,σ[i]?=some (some (.ref a))/\F a=none/\OwnIs K F H a d
 opn:∀ i,i∈own->∃ d,ρ[i]?=some (some d)
 dis:∀ i j a,i∈own->j∈own->σ[i]?=some (some (V.ref a))->σ[j]?=some (some (V.ref a))->i=j
def OA (own:List Nat) (σ:St):Addr->Prop:=fun b=>∃ i∈own,σ[i]?=some (some (V.ref b))
theorem OwnIs.there {K:Frag} {F H:Hp} {a:Addr} {d:D} (h:OwnIs K F H a d):H a≠none:=by
 cases d with
 | lst ds=>obtain ⟨xs,e,_⟩:=h; rw [e]; simp
 | dct ds=>obtain ⟨xs,e,_⟩:=h; rw [e]; simp
 | ins C fs=>obtain ⟨dx,xs,e,_⟩:=h; rw [e]; simp
 | at_ b ds=>obtain ⟨_,xs,e,_⟩:=h; rw [e]; simp
 | _=>exact h.elim
theorem OwnIs.grow {K:Frag} {F H F' H':Hp} {a:Addr} {d:D} (h:OwnIs K F H a d) (g:Same F F') (k:∀ o,H a=some o->H' a=some o):OwnIs K F' H' a d:=by
 cases d with
 | lst ds=>obtain ⟨xs,e,t⟩:=h; exact ⟨xs,k _ e,t.mono g⟩
 | dct ds=>obtain ⟨xs,e,t⟩:=h; exact ⟨xs,k _ e,t.mono g⟩
 | ins C fs=>obtain ⟨dx,xs,e,t⟩:=h; exact ⟨dx,xs,k _ e,t.mono g⟩
 | at_ b ds=>obtain ⟨eb,xs,e,t⟩:=h; exact ⟨eb,xs,k _ e,t.mono g⟩
 | _=>exact h.elim
theorem Rep.OA_there {K:Frag} {own:List Nat} {F H:Hp} {σ:St} {ρ:Sl} (r:Rep K own F H σ ρ) {b:Addr} (h:OA own σ b):H b≠none/\F b=none:=by
 obtain ⟨i,hi,e⟩:=h
 obtain ⟨d,hd⟩:=r.opn i hi
 obtain ⟨a,e1,e2,o⟩:=r.ow i d hi hd
 rw [e] at e1
 cases e1
 exact ⟨o.there,e2⟩
theorem Rep.grow {K:Frag} {own:List Nat} {F H F' H':Hp} {σ:St} {ρ:Sl} (r:Rep K own F H σ ρ) (c:Chg No F H F' H') (s:Same F' H'):Rep K own F' H' σ ρ where
 sub:=s
 len:=r.len
 val:=fun i d hi e=>let ⟨v,h1,h2⟩:=r.val i d hi e; ⟨v,h1,h2.mono c.grow⟩
 ow:=fun i d hi e=>by
  obtain ⟨a,h1,h2,h3⟩:=r.ow i d hi e
  refine ⟨a,h1,?_,h3.grow c.grow fun o q=>c.keep a o q fun z=>z⟩
  cases q:F' a with
  | none=>rfl
  | some o=>
   rcases c.new a (by rw [q]; simp) with z | z | z
   ·exact absurd h2 z
   ·exact absurd z h3.there
   ·exact z.elim
 opn:=r.opn
 dis:=r.dis
theorem MoIs.grow {K:Frag} {A:Addr->Prop} {m:Mo} {H0 F H F' H':Hp} {v:V} {d:D} (h:MoIs K m H0 F H v d) (hm:m≠.any) (c:Chg A F H F' H') (hA:∀ x,A x->H0 x≠none):MoIs K m H0 F' H' v d:=by
 cases m with
 | sh=>exact Is.mono c.grow h
 | fr=>
  obtain ⟨a,e,h0,hF,o⟩:=h
  have nA:¬A a:=fun z=>hA a z h0
  refine ⟨a,e,h0,?_,o.grow c.grow fun o q=>c.keep a o q nA⟩
  cases q:F' a with
  | none=>rfl
  | some u=>
   rcases c.new a (by rw [q]; simp) with z | z | z
   ·exact absurd hF z
   ·exact absurd z o.there
   ·exact absurd z nA
 | any=>exact absurd rfl hm
def XG (K:Frag) (io:List Nat) (F H:Hp) (σ:St) (ρ:Sl):Prop:=∀ i∈io,∃ d a,ρ[i]?=some (some d)/\σ[i]?=some (some (V.ref a))/\F a=none/\OwnIs K F H a d
theorem Rep.ioIs {K:Frag} {own io:List Nat} {F H:Hp} {σ:St} {ρ:Sl} (r:Rep K own F H σ ρ) (h:∀ i∈io,i∈own):XG K io F H σ ρ:=fun i hi=>by
 obtain ⟨d,hd⟩:=r.opn i (h i hi)
 obtain ⟨a,h1,h2,h3⟩:=r.ow i d (h i hi) hd
 exact ⟨d,a,hd,h1,h2,h3⟩
structure Ct where
 K:Frag
 cv:Str->Value
 E:XK
 io:List Nat
 mr:Mo
 ol:List Nat
 ox:List Nat
 oxs:∀ i∈ox,i∈io
def Po (C:Ct) (own:List Nat) (m:Mo) (σ:St) (F H:Hp) (r:Out (D×Sl)) (Q:VK):Prop:=match r with
 | .ok (d,ρ')=>∀ v F' H',Rep C.K own F' H' σ ρ'->Chg (OA own σ) F H F' H'->MoIs C.K m H F' H' v d->Q v H'
 | .exc c ρ'=>∀ F' H',Same F' H'->XG C.K C.ox F' H' σ ρ'->Chg (OA own σ) F H F' H'->C.E (C.cv c) none H'
 | .bad=>False
def tE (C:Ct) (own:List Nat) (m:Mo) (f:Sl->Out (D×Sl)):TE:=fun σ H Q=>∃ F ρ,Rep C.K own F H σ ρ/\Po C own m σ F H (f ρ) Q
theorem MoIs.back {K:Frag} {m:Mo} {A:Addr->Prop} {H0 F H F1 H1:Hp} {Fa Ha:Hp} {v:V} {d:D} (c:Chg A Fa H0 F1 H1) (h:MoIs K m H1 F H v d):MoIs K m H0 F H v d:=by
 cases m with
 | sh=>exact h
 | fr=>
  obtain ⟨a,e,h0,r⟩:=h
  refine ⟨a,e,?_,r⟩
  cases q:H0 a with
  | none=>rfl
  | some o=>exact absurd h0 (c.stay a (by rw [q]; simp))
 | any=>exact h
theorem Po.shift {C:Ct} {own:List Nat} {m:Mo} {σ:St} {F H F1 H1:Hp} {r:Out (D×Sl)} {Q:VK} (h:Po C own m σ F H r Q) (c:Chg (OA own σ) F H F1 H1):Po C own m σ F1 H1 r Q:=by
 cases r with
 | ok p=>exact fun v F' H' rp c' mo=>h v F' H' rp (c.trans' c') (MoIs.back (Ha:=H1) c mo)
 | exc x=>exact fun F' H' s io c'=>h F' H' s io (c.trans' c')
 | bad=>exact h.elim
theorem Po.bind {C:Ct} {own:List Nat} {m ma:Mo} {σ:St} {F H:Hp} {o:Out (D×Sl)} {k:D×Sl->Out (D×Sl)} {Q R:VK} (hp:Po C own m σ F H (o.bind k) Q)
  (h:∀ v F1 H1 d ρ1,Rep C.K own F1 H1 σ ρ1->Chg (OA own σ) F H F1 H1->MoIs C.K ma H F1 H1 v d->Po C own m σ F1 H1 (k (d,ρ1)) Q->R v H1):Po C own ma σ F H o R:=by
 cases o with
 | ok p=>
  obtain ⟨d,ρ1⟩:=p
  exact fun v F1 H1 rp c mo=>h v F1 H1 d ρ1 rp c mo (Po.shift (show Po C own m σ F H (k (d,ρ1)) Q from hp) c)
 | exc x=>exact hp
 | bad=>exact hp.elim
def PoV (C:Ct) (m:Mo) (F H:Hp) (r:Out D) (Q:VK):Prop:=match r with
 | .ok d=>∀ v F' H',Same F' H'->Chg No F H F' H'->MoIs C.K m H F' H' v d->Q v H'
 | _=>False
def OpD (X:Cx) (C:Ct) (m:Mo) (f:Value->Value->Sem Value) (g:D->D->Out D):Prop:=
 OpR X f (fun x y H Q=>∃ F dx dy,Same F H/\TopIs C.K F H x dx/\TopIs C.K F H y dy/\PoV C m F H (g dx dy) Q)
def UnD (X:Cx) (C:Ct) (m:Mo) (f:Value->Sem Value) (g:D->Out D):Prop:=
 UnR X f (fun x H Q=>∃ F dx,Same F H/\TopIs C.K F H x dx/\PoV C m F H (g dx) Q)
noncomputable def Out.plain {α:Type}:Out α->Out α
 | .ok a=>.ok a
 | _=>.bad
theorem PoV.of {C:Ct} {own:List Nat} {m:Mo} {σ:St} {F H:Hp} {o:Out D} {ρ:Sl} {Q:VK} (rp:Rep C.K own F H σ ρ) (h:Po C own m σ F H (o.plain.bind fun d=>.ok (d,ρ)) Q):PoV C m F H o Q:=by
 cases o with
 | ok d=>exact fun v F' H' s c mo=>h v F' H' (rp.grow c s) c.ofNo mo
 | exc c=>exact h.elim
 | bad=>exact h.elim
noncomputable def d2 (g:D->D->Out D) (fa fb:Sl->Out (D×Sl)):Sl->Out (D×Sl):=fun ρ=>(fa ρ).bind fun p=>(fb p.2).bind fun q=>(g p.1 q.1).plain.bind fun d=>.ok (d,q.2)
noncomputable def d1 (g:D->Out D) (fa:Sl->Out (D×Sl)):Sl->Out (D×Sl):=fun ρ=>(fa ρ).bind fun p=>(g p.1).plain.bind fun d=>.ok (d,p.2)
section
variable {X:Cx} {C:Ct} {own:List Nat} {a b:Expr} {fa fb:Sl->Out (D×Sl)} {m ma mb:Mo} {pos:Pos}
theorem QP {g:D->D->Out D} {σ:St} {H:Hp} {Q:VK} (hma:ma≠.any) (h:tE C own m (d2 g fa fb) σ H Q) :
  tE C own ma fa σ H fun x H1=>tE C own mb fb σ H1 fun y H2=>∃ F dx dy,Same F H2/\TopIs C.K F H2 x dx/\TopIs C.K F H2 y dy/\PoV C m F H2 (g dx dy) Q:=by
 obtain ⟨F,ρ,rp,h⟩:=h
 refine ⟨F,ρ,rp,Po.bind h fun v F1 H1 d ρ1 rp1 c1 mo1 h1=>⟨F1,ρ1,rp1,Po.bind h1 fun w F2 H2 e ρ2 rp2 c2 mo2 h2=>?_⟩⟩
 exact ⟨F2,d,e,rp2.sub,(mo1.grow hma c2 fun x z=>(rp.OA_there z).1).top,mo2.top,PoV.of rp2 h2⟩
theorem Zf {g:D->Out D} {σ:St} {H:Hp} {Q:VK} (h:tE C own m (d1 g fa) σ H Q) :
  tE C own ma fa σ H fun x H1=>∃ F dx,Same F H1/\TopIs C.K F H1 x dx/\PoV C m F H1 (g dx) Q:=by
 obtain ⟨F,ρ,rp,h⟩:=h
 refine ⟨F,ρ,rp,Po.bind h fun v F1 H1 d ρ1 rp1 c1 mo1 h1=>?_⟩
 exact ⟨F1,d,rp1.sub,mo1.top,PoV.of rp1 h1⟩
theorem jw {e:Expr} {t t':TE} (h:PE X e t) (i:∀ σ H Q,t' σ H Q->t σ H Q):PE X e t':=⟨fun pins s σ H Q I hw=>h pins s σ H Q I (i σ H Q hw)⟩
theorem Zg {e:Expr} {t t':TT} (h:PT X e t) (i:∀ σ H Q,t' σ H Q->t σ H Q):PT X e t':=⟨fun pins s σ H Q I hw=>h pins s σ H Q I (i σ H Q hw)⟩
theorem qO {op:Operator} {g:D->D->Out D} (ho:OpD X C m (binaryOp op) g) (ha:PE X a (tE C own ma fa)) (hb:PE X b (tE C own mb fb)) (hma:ma≠.any:=by decide):PE X (.BinOp a op b pos) (tE C own m (d2 g fa fb)):=
 jw (qeg ho ha hb) fun _ _ _ h=>QP hma h
theorem ut {op:CmpOp} {g:D->D->Out D} (ho:OpD X C m (compareOp op) g) (ha:PE X a (tE C own ma fa)) (hb:PE X b (tE C own mb fb)) (hma:ma≠.any:=by decide)
  (hk:behindInMarks op b=false:=by first | exact GL _ | with_unfolding_all rfl):PE X (.Compare a [op] [b] pos) (tE C own m (d2 g fa fb)):=
 jw (qaw ho ha hb hk) fun _ _ _ h=>QP hma h
theorem JZ {op:UnaryOp} {g:D->Out D} (ho:UnD X C m (unaryOp op) g) (ha:PE X a (tE C own ma fa)):PE X (.UnaryOp op a pos) (tE C own m (d1 g fa)):=
 jw (qeh ho ha) fun _ _ _ h=>Zf h
end
instance:DecidableEq Mo:=fun a b=>by cases a <;> cases b <;> first | exact isTrue rfl | exact isFalse (by intro h; cases h)
theorem Zh {K:Frag} {own:List Nat} {H0 F H:Hp} {σ:St} {ρ:Sl} {v:V} {d:D} (rp:Rep K own F H σ ρ) (hA:∀ b,OA own σ b->H0 b≠none) (h:MoIs K .fr H0 F H v d) :
  ∃ F',Rep K own F' H σ ρ/\Same F F'/\Is K F' v d/\∀ b,F' b≠none->F b≠none\/H0 b=none:=by
 obtain ⟨a,rfl,h0,hF,o⟩:=h
 obtain ⟨u,hu⟩:∃ u,H a=some u:=by
  cases q:H a with
  | none=>exact absurd q o.there
  | some u=>exact ⟨u,rfl⟩
 have gr:Same F (upd F a u):=fun b w e=>by rw [qA (qE e hF)]; exact e
 have sb:Same (upd F a u) H:=fun b w e=>by
  by_cases q:b=a
  ·subst q; rw [qo] at e; cases e; exact hu
  ·rw [qA q] at e; exact rp.sub b w e
 refine ⟨upd F a u,⟨sb,rp.len,fun i d hi e=>?_,fun i d hi e=>?_,rp.opn,rp.dis⟩,gr,?_,fun b hb=>?_⟩
 ·obtain ⟨v,h1,h2⟩:=rp.val i d hi e
  exact ⟨v,h1,h2.mono gr⟩
 ·obtain ⟨c,h1,h2,h3⟩:=rp.ow i d hi e
  refine ⟨c,h1,?_,h3.grow gr fun _ q=>q⟩
  have nc:c≠a:=fun q=>by subst q; exact hA c ⟨i,hi,h1⟩ h0
  rw [qA nc]; exact h2
 ·cases d with
  | lst ds=>obtain ⟨xs,e,t⟩:=o; rw [hu] at e; cases e; exact .lst (.inl (.inl qo)) (t.mono gr)
  | dct ds=>obtain ⟨xs,e,t⟩:=o; rw [hu] at e; cases e; exact .dct qo (t.mono gr)
  | ins C fs=>obtain ⟨dx,xs,e,t⟩:=o; rw [hu] at e; cases e; exact .ins qo (t.mono gr)
  | at_ b ds=>obtain ⟨eb,xs,e,t⟩:=o; rw [hu] at e; cases e; subst eb; exact .at_ (.inl (.inl qo)) (t.mono gr)
  | _=>exact o.elim
 ·by_cases q:b=a
  ·exact .inr (by rw [q]; exact h0)
  ·rw [qA q] at hb; exact .inl hb
theorem Po.toSh {C:Ct} {own:List Nat} {m:Mo} {σ:St} {F H:Hp} {ρ0:Sl} {r:Out (D×Sl)} {Q:VK} (rp:Rep C.K own F H σ ρ0) (hm:m≠.any) (h:Po C own .sh σ F H r Q):Po C own m σ F H r Q:=by
 cases r with
 | ok p=>
  intro v F' H' rp' c mo
  cases m with
  | sh=>exact h v F' H' rp' c mo
  | fr=>
   obtain ⟨F2,rp2,gr,is,nw⟩:=Zh rp' (fun b z=>(rp.OA_there z).1) mo
   refine h v F2 H' rp2 ⟨c.keep,c.stay,c.grow.trans gr,fun b hb=>?_⟩ is
   rcases nw b hb with z | z
   ·exact c.new b z
   ·exact .inr (.inl z)
  | any=>exact absurd rfl hm
 | exc x=>exact h
 | bad=>exact h.elim
section
variable {X:Cx} {C:Ct} {own:List Nat} {a b e:Expr} {f fa fb:Sl->Out (D×Sl)} {m ma mb:Mo} {pos:Pos}
theorem uc (h:PE X e (tE C own m f)) (hm:m≠.any):PE X e (tE C own .sh f):=jw h fun _ _ _ ⟨F,ρ,rp,p⟩=>⟨F,ρ,rp,p.toSh rp hm⟩
noncomputable def qe (i:Nat):Sl->Out (D×Sl):=fun ρ=>match ρ[i]? with
 | some (some d)=>.ok (d,ρ)
 | _=>.bad
noncomputable def dC (d:D):Sl->Out (D×Sl):=fun ρ=>.ok (d,ρ)
theorem qcB {i:Nat} {x:Str} (hN:X.N[i]?=some x) (hv:Vis X.env.scope x) (ho:i∉own) (hd:(x == ("__debug__":Str))=false:=by decide) (hcd:(x == ("__classdict__":Str))=false:=by decide):PE X (.Name x pos) (tE C own .sh (qe i)):=by
 refine jw (wa hN hv hd hcd) fun σ H Q ⟨F,ρ,rp,h⟩=>?_
 unfold qe at h
 cases e:ρ[i]? with
 | none=>rw [e] at h; exact h.elim
 | some o=>
  cases o with
  | none=>rw [e] at h; exact h.elim
  | some d=>
   rw [e] at h
   obtain ⟨v,h1,h2⟩:=rp.val i d ho e
   exact ⟨v,h1,h v F H rp .refl h2⟩
theorem kc {i:Nat} {x:Str} (hN:X.N[i]?=some x) (hv:Vis X.env.scope x) (ho:i∈own) (hd:(x == ("__debug__":Str))=false:=by decide) (hcd:(x == ("__classdict__":Str))=false:=by decide):PE X (.Name x pos) (tE C own .any (qe i)):=by
 refine jw (wa hN hv hd hcd) fun σ H Q ⟨F,ρ,rp,h⟩=>?_
 unfold qe at h
 cases e:ρ[i]? with
 | none=>rw [e] at h; exact h.elim
 | some o=>
  cases o with
  | none=>rw [e] at h; exact h.elim
  | some d=>
   rw [e] at h
   obtain ⟨a,h1,h2,h3⟩:=rp.ow i d ho e
   exact ⟨_,h1,h _ F H rp .refl (.inr ⟨a,rfl,h3⟩)⟩
theorem qcC {v:V} {d:D} (h:PE X e (tC v)) (i:∀ F,Is C.K F v d):PE X e (tE C own .sh (dC d)):=jw h fun σ H Q ⟨F,ρ,rp,h⟩=>h v F H rp .refl (i F)
theorem qr {i j pos}:PE X (.Constant (.int i) j pos) (tE C own .sh (dC (.int i))):=qcC GG fun _=>.int i
theorem gt {i j pos}:PE X (.Constant (.bool i) j pos) (tE C own .sh (dC (.bl i))):=qcC qd5 fun _=>.bl i
theorem UF {j pos}:PE X (.Constant .none j pos) (tE C own .sh (dC .non)):=qcC qb4 fun _=>.non
theorem xA {x j pos} (h:Str.length x<=sizeLine:=by decide):PE X (.Constant (.str x) j pos) (tE C own .sh (dC (.str x))):=qcC GH fun _=>.str h
theorem qaJ {x:Str} {v:V} {d:D} {u:Value} (hg:Gl X x) (hm:X.mg x=some u) (r:RelV v u) (i:∀ F,Is C.K F v d) (hd:(x == ("__debug__":Str))=false:=by decide):PE X (.Name x pos) (tE C own .sh (dC d)):=qcC (qam hg hm r hd) i
noncomputable def wT (g:Int->Int->Out D):D->D->Out D
 | .int i,.int j=>g i j
 | _,_=>.bad
theorem TopIs.int {K:Frag} {F H:Hp} {v:V} {i:Int} (h:TopIs K F H v (.int i)):v=.int i:=by
 rcases h with h | ⟨a,_,h⟩
 ·cases h; rfl
 ·exact h.elim
theorem TopIs.str {K:Frag} {F H:Hp} {v:V} {x:Str} (h:TopIs K F H v (.str x)):v=.str x/\x.length<=sizeLine:=by
 rcases h with h | ⟨a,_,h⟩
 ·cases h; exact ⟨rfl,by assumption⟩
 ·exact h.elim
theorem TopIs.bl {K:Frag} {F H:Hp} {v:V} {x:Bool} (h:TopIs K F H v (.bl x)):v=.bl x:=by
 rcases h with h | ⟨a,_,h⟩
 ·cases h; rfl
 ·exact h.elim
theorem TopIs.non {K:Frag} {F H:Hp} {v:V} (h:TopIs K F H v .non):v=.non:=by
 rcases h with h | ⟨a,_,h⟩
 ·cases h; rfl
 ·exact h.elim
theorem TopIs.raw {K:Frag} {F H:Hp} {v u:V} (h:TopIs K F H v (.raw u)):v=u:=by
 rcases h with h | ⟨a,_,h⟩
 ·cases h; rfl
 ·exact h.elim
theorem TopIs.lst {K:Frag} {F H:Hp} {v:V} {ds:List D} (s:Same F H) (h:TopIs K F H v (.lst ds)):∃ a xs,v=.ref a/\SqL K H a xs/\IsL K F xs ds:=by
 rcases h with h | ⟨a,e,h⟩
 ·cases h with
  | lst h t=>exact ⟨_,_,rfl,s.seq h,t⟩
 ·obtain ⟨xs,e2,t⟩:=h
  exact ⟨a,xs,e,.inl (.inl e2),t⟩
theorem TopIs.tup {K:Frag} {F H:Hp} {v:V} {ds:List D} (s:Same F H) (h:TopIs K F H v (.tup ds)):∃ a xs,v=.ref a/\SqT K H a xs/\IsL K F xs ds:=by
 rcases h with h | ⟨a,e,h⟩
 ·cases h with
  | tup h t=>exact ⟨_,_,rfl,qF s h,t⟩
 ·exact h.elim
theorem TopIs.dct {K:Frag} {F H:Hp} {v:V} {ds:List (Key×D)} (s:Same F H) (h:TopIs K F H v (.dct ds)):∃ a kv,v=.ref a/\H a=some (.dK kv)/\IsK K F kv ds:=by
 rcases h with h | ⟨a,e,h⟩
 ·cases h with
  | dct h t=>exact ⟨_,_,rfl,s _ _ h,t⟩
 ·obtain ⟨xs,e2,t⟩:=h
  exact ⟨a,xs,e,e2,t⟩
theorem Vk {fn:Value->Value->Sem Value} {P:Int->Int->Prop} [∀ i j,Decidable (P i j)] {g:Int->Int->V} {gd:Int->Int->D} (ho:OpR X fn (rI P g)) (hg:∀ F i j,Is C.K F (g i j) (gd i j)) :
  OpD X C .sh fn (wT fun i j=>if P i j then .ok (gd i j) else .bad):=by
 intro pins s σ H x y v u Q I rx ry h
 obtain ⟨F,dx,dy,sb,tx,ty,po⟩:=h
 cases dx <;> try exact po.elim
 cases dy <;> try exact po.elim
 rename_i i j
 have po:PoV C .sh F H (if P i j then .ok (gd i j) else .bad) Q:=po
 obtain rfl:=tx.int
 obtain rfl:=ty.int
 by_cases q:P i j
 ·rw [if_pos q] at po
  exact ho pins s σ H _ _ v u Q I rx ry ⟨i,j,rfl,rfl,q,po (g i j) F H sb .refl (hg F i j)⟩
 ·rw [if_neg q] at po; exact po.elim
theorem Ka {fn:Value->Value->Sem Value} {g:Int->Int->V} {gd:Int->Int->D} (ho:OpR X fn (rI0 g)) (hg:∀ F i j,Is C.K F (g i j) (gd i j)):OpD X C .sh fn (wT fun i j=>.ok (gd i j)):=by
 intro pins s σ H x y v u Q I rx ry h
 obtain ⟨F,dx,dy,sb,tx,ty,po⟩:=h
 cases dx <;> try exact po.elim
 cases dy <;> try exact po.elim
 rename_i i j
 obtain rfl:=tx.int
 obtain rfl:=ty.int
 exact ho pins s σ H _ _ v u Q I rx ry ⟨i,j,rfl,rfl,po (g i j) F H sb .refl (hg F i j)⟩
noncomputable def JL:D->D->Out D:=wT fun i j=>.ok (.int (i - j))
theorem xB:OpD X C .sh (binaryOp .Sub) JL:=Ka qch fun _ _ _=>.int _
instance:∀ i j,Decidable (CMul i j):=fun i j=>inferInstanceAs (Decidable (_\/_))
instance:∀ i j,Decidable (qbS i j):=fun i j=>inferInstanceAs (Decidable (_/\_))
noncomputable def Ui:D->D->Out D:=wT fun i j=>if CMul i j then .ok (.int (i * j)) else .bad
theorem QQ:OpD X C .sh (binaryOp .Mult) Ui:=Vk qci fun _ _ _=>.int _
noncomputable def uX:D->D->Out D:=wT fun i j=>if 0 < j then .ok (.int (i % j)) else .bad
theorem kJ:OpD X C .sh (binaryOp .Mod) uX:=Vk qcj fun _ _ _=>.int _
noncomputable def gu:D->D->Out D:=wT fun i j=>if qbS i j then .ok (.int (i / j)) else .bad
theorem gx:OpD X C .sh (binaryOp .FloorDiv) gu:=Vk qau fun _ _ _=>.int _
noncomputable def ud (x y:Str):Bool:=decide (x.cps.toList < y.cps.toList)
noncomputable def ltD:D->D->Out D
 | .int i,.int j=>.ok (.bl (decide (i < j)))
 | .str x,.str y=>.ok (.bl (ud x y))
 | _,_=>.bad
theorem qey:OpD X C .sh (compareOp .Lt) ltD:=by
 intro pins s σ H x y v u Q I rx ry h
 obtain ⟨F,dx,dy,sb,tx,ty,po⟩:=h
 cases dx <;> try exact po.elim
 ·cases dy <;> try exact po.elim
  obtain rfl:=tx.int
  obtain rfl:=ty.int
  exact qei pins s σ H _ _ v u Q I rx ry ⟨_,_,rfl,rfl,po _ F H sb .refl (.bl _)⟩
 ·cases dy <;> try exact po.elim
  obtain ⟨rfl,_⟩:=tx.str
  obtain ⟨rfl,_⟩:=ty.str
  exact Up pins s σ H _ _ v u Q I rx ry ⟨_,_,rfl,rfl,po _ F H sb .refl (.bl _)⟩
end
noncomputable def eqS:D->D->Option Bool
 | .non,.non=>some true
 | .non,.bl _=>some false
 | .non,.int _=>some false
 | .non,.str _=>some false
 | .non,.tup _=>some false
 | .non,.lst _=>some false
 | .bl _,.non=>some false
 | .bl a,.bl b=>some (a == b)
 | .bl a,.int b=>some ((if a then 1 else 0) == b)
 | .bl _,.str _=>some false
 | .bl _,.tup _=>some false
 | .bl _,.lst _=>some false
 | .int _,.non=>some false
 | .int a,.bl b=>some (a == (if b then 1 else 0))
 | .int a,.int b=>some (a == b)
 | .int _,.str _=>some false
 | .int _,.tup _=>some false
 | .int _,.lst _=>some false
 | .str _,.non=>some false
 | .str _,.bl _=>some false
 | .str _,.int _=>some false
 | .str a,.str b=>some (a == b)
 | .str _,.tup _=>some false
 | .str _,.lst _=>some false
 | .tup _,.non=>some false
 | .tup _,.bl _=>some false
 | .tup _,.int _=>some false
 | .tup _,.str _=>some false
 | .tup _,.lst _=>some false
 | .lst _,.non=>some false
 | .lst _,.bl _=>some false
 | .lst _,.int _=>some false
 | .lst _,.str _=>some false
 | .lst _,.tup _=>some false
 | _,_=>none
noncomputable def wc (f:D->D->Option Bool):List D->List D->Option Bool
 | x::xs,y::ys=>(f x y).bind fun a=>(wc f xs ys).bind fun b=>some (a&&b)
 | _,_=>some true
noncomputable def eqN:Nat->D->D->Option Bool
 | n+1,.tup xs,.tup ys=>(wc (eqN n) xs ys).map fun b=>b&&xs.length == ys.length
 | n+1,.lst xs,.lst ys=>if xs.length=ys.length then wc (eqN n) xs ys else some false
 | _,a,b=>eqS a b
theorem Vl {n:Nat} {a b:D} (h1:∀ xs ys,a=.tup xs->b≠.tup ys) (h2:∀ xs ys,a=.lst xs->b≠.lst ys):eqN n a b=eqS a b:=by
 cases n with
 | zero=>rfl
 | succ n=>
  cases a with
  | tup xs=>cases b with
   | tup ys=>exact absurd rfl (h1 xs ys rfl)
   | _=>rfl
  | lst xs=>cases b with
   | lst ys=>exact absurd rfl (h2 xs ys rfl)
   | _=>rfl
  | _=>rfl
noncomputable def itE (f:D->D->Option Bool) (xs ys:List D) (j:Nat):Bool:=((xs[j]?).bind fun x=>(ys[j]?).bind fun y=>f x y).getD false
theorem vm {f:D->D->Option Bool}:∀ {xs ys:List D} {b:Bool},wc f xs ys=some b->b=(List.range (min xs.length ys.length)).all (itE f xs ys)
 | [],ys,b,h=>by simp [wc] at h ⊢; exact h
 | x::xs,[],b,h=>by simp [wc] at h ⊢; exact h
 | x::xs,y::ys,b,h=>by
  unfold wc at h
  cases e:f x y with
  | none=>rw [e] at h; simp at h
  | some a=>
   cases e2:wc f xs ys with
   | none=>rw [e,e2] at h; simp at h
   | some c=>
    rw [e,e2] at h
    have h:(a&&c)=b:=by simpa using h
    have ih:=vm e2
    have hm:min (x::xs).length (y::ys).length=min xs.length ys.length+1:=by simp only [List.length_cons]; omega
    rw [hm,List.range_succ_eq_map,List.all_cons,List.all_map]
    have e0:itE f (x::xs) (y::ys) 0=a:=by simp [itE,e]
    have e1:(itE f (x::xs) (y::ys)) ∘ Nat.succ=itE f xs ys:=by
     funext j
     simp [itE]
    rw [e0,e1,<-ih]
    exact h.symm
theorem UG {f:D->D->Option Bool}:∀ {xs ys:List D} {b:Bool},wc f xs ys=some b->∀ (j:Nat) (x y:D),xs[j]?=some x->ys[j]?=some y->f x y=some (itE f xs ys j)
 | [],ys,b,_,j,x,y,hx,_=>by simp at hx
 | x::xs,[],b,_,j,_,y,_,hy=>by simp at hy
 | x::xs,y::ys,b,h,0,x',y',hx,hy=>by
  simp at hx hy
  subst hx hy
  unfold wc at h
  cases e:f x y with
  | none=>rw [e] at h; simp at h
  | some a=>simp [itE,e]
 | x::xs,y::ys,b,h,j+1,x',y',hx,hy=>by
  unfold wc at h
  cases e:f x y with
  | none=>rw [e] at h; simp at h
  | some a=>
   cases e2:wc f xs ys with
   | none=>rw [e,e2] at h; simp at h
   | some c=>
    have q:=UG e2 j x' y' (by simpa using hx) (by simpa using hy)
    rw [q]
    simp [itE]
section
variable {X:Cx} {pins:List (Addr×Obj)} {σ:St} {F H:Hp} {s:Shared}
theorem UH (I:Inv X pins σ H s) (sb:Same F H):∀ (n:Nat) {v:V} {d e:D} {b:Bool},Is X.K F v d->Is X.K F v e->eqN n d e=some b->b=true:=by
 intro n
 induction n with
 | zero=>
  intro v d e b h1 h2 h
  cases h1 <;> cases h2 <;> simp [eqN,eqS] at h <;> try exact h.symm
  all_goals first
   | exact h
   | (rename_i p1 _ _ _ p2 _; obtain ⟨_,_,q1,_⟩:=I.list (sb.seq (by assumption)); obtain ⟨_,_,q2,_⟩:=I.tuple (qF sb (by assumption)); exact absurd rfl (PySem.SeqAt.ne_of_list_tuple q1.isList q2))
   | (rename_i p1 _ _ _ p2 _; obtain ⟨_,_,q1,_⟩:=I.list (sb.seq (by assumption)); obtain ⟨_,_,q2,_⟩:=I.tuple (qF sb (by assumption)); exact absurd rfl (PySem.SeqAt.ne_of_list_tuple q1.isList q2).symm)
   | skip
 | succ n ih=>
  have lists:∀ {xs:List V} {ds es:List D} {b:Bool},IsL X.K F xs ds->IsL X.K F xs es->wc (eqN n) ds es=some b->b=true:=by
   intro xs
   induction xs with
   | nil=>intro ds es b h1 h2 h; cases h1; cases h2; simp [wc] at h; exact h
   | cons x xs ihx=>
    intro ds es b h1 h2 h
    cases h1 with
    | cons a1 t1=>
     cases h2 with
     | cons a2 t2=>
      rename_i d ds e es
      unfold wc at h
      cases q:eqN n d e with
      | none=>rw [q] at h; simp at h
      | some a=>
       cases q2:wc (eqN n) ds es with
       | none=>rw [q,q2] at h; simp at h
       | some c=>
        rw [q,q2] at h
        rw [ih a1 a2 q,ihx t1 t2 q2] at h
        simpa using h.symm
  intro v d e b h1 h2 h
  cases h1 with
  | tup p1 t1=>
   cases h2 with
   | tup p2 t2=>
    have e:=I.tuple_inj (qF sb p1) (qF sb p2)
    subst e
    simp only [eqN] at h
    rename_i xs ds es
    cases q:wc (eqN n) ds es with
    | none=>rw [q] at h; simp at h
    | some c=>
     rw [q] at h
     have hl:ds.length=es.length:=by rw [<-t1.length,<-t2.length]
     have hb:(ds.length == es.length)=true:=by simp [hl]
     rw [lists t1 t2 q] at h
     simpa [hb] using h.symm
   | lst p2 t2=>
    obtain ⟨_,_,q1,_⟩:=I.list (sb.seq p2)
    obtain ⟨_,_,q2,_⟩:=I.tuple (qF sb p1)
    exact absurd rfl (PySem.SeqAt.ne_of_list_tuple q1.isList q2)
   | _=>simp [eqN,eqS] at h
  | lst p1 t1=>
   cases h2 with
   | lst p2 t2=>
    have e:=I.list_inj (sb.seq p1) (sb.seq p2)
    subst e
    simp only [eqN] at h
    have hl:=t1.length.symm.trans t2.length
    rw [if_pos hl] at h
    exact lists t1 t2 h
   | tup p2 t2=>
    obtain ⟨_,_,q1,_⟩:=I.list (sb.seq p1)
    obtain ⟨_,_,q2,_⟩:=I.tuple (qF sb p2)
    exact absurd rfl (PySem.SeqAt.ne_of_list_tuple q1.isList q2)
   | _=>simp [eqN,eqS] at h
  | _=>cases h2 <;> simp [eqN,eqS] at h <;> first | exact h.symm | exact h | skip
end
open PySem.SeqAt
section
variable {X:Cx} {pins:List (Addr×Obj)} {σ:St} {F H:Hp} {s:Shared}
theorem Vals.getE {xs:List V} {us:List Value} (r:Vals xs us) {j:Nat} (h:j < us.length):∃ x,xs[j]?=some x/\RelV x us[j]:=by
 have hl:=r.length
 have hj:j < xs.length:=by omega
 obtain ⟨u,e1,e2⟩:=Vals.get (i:=j) (x:=xs[j]) r (by simp [hj])
 refine ⟨xs[j],by simp [hj],?_⟩
 rw [List.getElem?_eq_getElem h] at e1
 cases e1
 exact e2
theorem wC {A:Around} {n:Nat} {xs ys:List V} {ds es:List D} {us ws:List Value} {b:Bool} (ih:∀ {v w:V} {d e:D} {u t:Value} {b:Bool},Is X.K F v d->Is X.K F w e->RelV v u->RelV w t->eqN n d e=some b->EqAt A s u t b)
  (r1:Vals xs us) (r2:Vals ys ws) (i1:IsL X.K F xs ds) (i2:IsL X.K F ys es) (h:wc (eqN n) ds es=some b) :
  ∀ j (h1:j < us.toArray.size) (h2:j < ws.toArray.size),EqAt A s us.toArray[j] ws.toArray[j] (itE (eqN n) ds es j):=by
 intro j h1 h2
 have h1':j < us.length:=by simpa using h1
 have h2':j < ws.length:=by simpa using h2
 obtain ⟨x,ex,rx⟩:=Vals.getE r1 h1'
 obtain ⟨y,ey,ry⟩:=Vals.getE r2 h2'
 obtain ⟨d,ed,idd⟩:=i1.get ex
 obtain ⟨e,ee,ie⟩:=i2.get ey
 have q:=UG h j d e ed ee
 simpa using ih idd ie rx ry q
theorem Vm {A:Around} {n:Nat} {a c:Addr} {xs ys:List V} {ds es:List D} {b:Bool} (I:Inv X pins σ H s) (ih:∀ {v w:V} {d e:D} {u t:Value} {b:Bool},Is X.K F v d->Is X.K F w e->RelV v u->RelV w t->eqN n d e=some b->EqAt A.in1 s u t b)
  (p1:SqT X.K H a xs) (p2:SqT X.K H c ys) (i1:IsL X.K F xs ds) (i2:IsL X.K F ys es) (h:eqN (n+1) (.tup ds) (.tup es)=some b) (hu:A.units < cLine):RcAt A s (.ref a) (.ref c) b:=by
 obtain ⟨us,r1,t1,_⟩:=I.tuple p1
 obtain ⟨ws,r2,t2,_⟩:=I.tuple p2
 simp only [eqN] at h
 cases q:wc (eqN n) ds es with
 | none=>rw [q] at h; simp at h
 | some k=>
  rw [q] at h
  have l1:us.toArray.size=ds.length:=by rw [List.size_toArray,<-r1.length,i1.length]
  have l2:ws.toArray.size=es.length:=by rw [List.size_toArray,<-r2.length,i2.length]
  have z:=RcAt.tuples (A:=A) t1 t2 hu (wC (A:=A.in1) ih r1 r2 i1 i2 q)
  rw [l1,l2,<-vm q] at z
  have e:b=(k&&ds.length == es.length):=by simpa using h.symm
  rw [e]; exact z
theorem Vn {A:Around} {n:Nat} {a c:Addr} {xs ys:List V} {ds es:List D} {b:Bool} (I:Inv X pins σ H s) (ih:∀ {v w:V} {d e:D} {u t:Value} {b:Bool},Is X.K F v d->Is X.K F w e->RelV v u->RelV w t->eqN n d e=some b->EqAt A.in1 s u t b)
  (p1:SqL X.K H a xs) (p2:SqL X.K H c ys) (i1:IsL X.K F xs ds) (i2:IsL X.K F ys es) (h:eqN (n+1) (.lst ds) (.lst es)=some b) (hu:A.units < cLine):RcAt A s (.ref a) (.ref c) b:=by
 obtain ⟨us,r1,t1,_⟩:=I.list p1
 obtain ⟨ws,r2,t2,_⟩:=I.list p2
 have l1:us.toArray.size=ds.length:=by rw [List.size_toArray,<-r1.length,i1.length]
 have l2:ws.toArray.size=es.length:=by rw [List.size_toArray,<-r2.length,i2.length]
 simp only [eqN] at h
 by_cases hl:ds.length=es.length
 ·rw [if_pos hl] at h
  have z:=RcAt.lists (A:=A) t1.isList t2.isList (by omega) hu (wC (A:=A.in1) ih r1 r2 i1 i2 h)
  have e:=vm h
  rw [l1] at z
  rw [e,show min ds.length es.length=ds.length by omega]
  exact z
 ·rw [if_neg hl] at h
  cases h
  exact RcAt.lists_lengths t1.isList t2.isList (bne_iff_ne.mpr (by rw [l1,l2]; exact hl)) hu
theorem UI (I:Inv X pins σ H s) (sb:Same F H):∀ (n:Nat) {A:Around} {v w:V} {d e:D} {u t:Value} {b:Bool},A.units+n < cLine->Is X.K F v d->Is X.K F w e->RelV v u->RelV w t->eqN n d e=some b->EqAt A s u t b:=by
 intro n
 induction n with
 | zero=>
  intro A v w d e u t b hu h1 h2 rx ry h
  have hu:A.units < cLine:=by omega
  have h:eqS d e=some b:=h
  cases h1 with
  | non=>cases rx; cases h2 with
   | non=>cases ry; cases h; exact EqAt.same _
   | bl=>cases ry; cases h; exact EqAt.none_bool _
   | int=>obtain ⟨_,rfl⟩:=ry; cases h; exact EqAt.none_int _ _
   | str=>obtain ⟨_,rfl⟩:=ry; cases h; exact EqAt.none_str _ _
   | tup p _=>cases ry; cases h; obtain ⟨_,_,q,_⟩:=I.tuple (qF sb p); exact EqAt.none_tuple q hu
   | lst p _=>cases ry; cases h; obtain ⟨_,_,q,_⟩:=I.list (sb.seq p); exact EqAt.none_list q.isList hu
   | dct=>cases h
   | raw=>cases h
   | xcp=>cases h
   | ins=>cases h
   | at_=>cases h
  | bl=>cases rx; cases h2 with
   | non=>cases ry; cases h; exact EqAt.bool_none _
   | bl=>cases ry; cases h; exact EqAt.bool_bool _ _
   | int=>obtain ⟨_,rfl⟩:=ry; cases h; exact EqAt.bool_int _ _ _
   | str=>obtain ⟨_,rfl⟩:=ry; cases h; exact EqAt.bool_str _ _ _
   | tup p _=>cases ry; cases h; obtain ⟨_,_,q,_⟩:=I.tuple (qF sb p); exact EqAt.bool_tuple _ q hu
   | lst p _=>cases ry; cases h; obtain ⟨_,_,q,_⟩:=I.list (sb.seq p); exact EqAt.bool_list _ q.isList hu
   | dct=>cases h
   | raw=>cases h
   | xcp=>cases h
   | ins=>cases h
   | at_=>cases h
  | int=>obtain ⟨_,rfl⟩:=rx; cases h2 with
   | non=>cases ry; cases h; exact EqAt.int_none _ _
   | bl=>cases ry; cases h; exact EqAt.int_bool _ _ _
   | int=>obtain ⟨_,rfl⟩:=ry; cases h; exact EqAt.int_int _ _ _ _
   | str=>obtain ⟨_,rfl⟩:=ry; cases h; exact EqAt.int_str _ _ _ _
   | tup p _=>cases ry; cases h; obtain ⟨_,_,q,_⟩:=I.tuple (qF sb p); exact EqAt.int_tuple _ _ q hu
   | lst p _=>cases ry; cases h; obtain ⟨_,_,q,_⟩:=I.list (sb.seq p); exact EqAt.int_list _ _ q.isList hu
   | dct=>cases h
   | raw=>cases h
   | xcp=>cases h
   | ins=>cases h
   | at_=>cases h
  | str=>obtain ⟨_,rfl⟩:=rx; cases h2 with
   | non=>cases ry; cases h; exact EqAt.str_none _ _
   | bl=>cases ry; cases h; exact EqAt.str_bool _ _ _
   | int=>obtain ⟨_,rfl⟩:=ry; cases h; exact EqAt.str_int _ _ _ _
   | str=>obtain ⟨_,rfl⟩:=ry; cases h; exact EqAt.str_str _ _ _ _
   | tup p _=>cases ry; cases h; obtain ⟨_,_,q,_⟩:=I.tuple (qF sb p); exact EqAt.str_tuple _ _ q hu
   | lst p _=>cases ry; cases h; obtain ⟨_,_,q,_⟩:=I.list (sb.seq p); exact EqAt.str_list _ _ q.isList hu
   | dct=>cases h
   | raw=>cases h
   | xcp=>cases h
   | ins=>cases h
   | at_=>cases h
  | tup p0 _=>
   cases rx
   obtain ⟨_,_,q0,_⟩:=I.tuple (qF sb p0)
   cases h2 with
   | non=>cases ry; cases h; exact EqAt.tuple_none q0 hu
   | bl=>cases ry; cases h; exact EqAt.tuple_bool _ q0 hu
   | int=>obtain ⟨_,rfl⟩:=ry; cases h; exact EqAt.tuple_int _ _ q0 hu
   | str=>obtain ⟨_,rfl⟩:=ry; cases h; exact EqAt.tuple_str _ _ q0 hu
   | tup p _=>cases h
   | lst p _=>cases ry; cases h; obtain ⟨_,_,q,_⟩:=I.list (sb.seq p); exact EqAt.tuple_list q0 q.isList hu
   | dct=>cases h
   | raw=>cases h
   | xcp=>cases h
   | ins=>cases h
   | at_=>cases h
  | lst p0 _=>
   cases rx
   obtain ⟨_,_,q0,_⟩:=I.list (sb.seq p0)
   cases h2 with
   | non=>cases ry; cases h; exact EqAt.list_none q0.isList hu
   | bl=>cases ry; cases h; exact EqAt.list_bool _ q0.isList hu
   | int=>obtain ⟨_,rfl⟩:=ry; cases h; exact EqAt.list_int _ _ q0.isList hu
   | str=>obtain ⟨_,rfl⟩:=ry; cases h; exact EqAt.list_str _ _ q0.isList hu
   | tup p _=>cases ry; cases h; obtain ⟨_,_,q,_⟩:=I.tuple (qF sb p); exact EqAt.list_tuple q0.isList q hu
   | lst p _=>cases h
   | dct=>cases h
   | raw=>cases h
   | xcp=>cases h
   | ins=>cases h
   | at_=>cases h
  | dct=>cases h2 <;> cases h
  | raw=>cases h2 <;> cases h
  | xcp=>cases h2 <;> cases h
  | ins=>cases h2 <;> cases h
  | at_=>cases h2 <;> cases h
 | succ n ih=>
  intro A v w d e u t b hu h1 h2 rx ry h
  have hu1:A.in1.units+n < cLine:=by show A.units+1+n < cLine; omega
  by_cases both:(∃ xs ys,d=.tup xs/\e=.tup ys)\/(∃ xs ys,d=.lst xs/\e=.lst ys)
  ·rcases both with ⟨ds,es,rfl,rfl⟩ | ⟨ds,es,rfl,rfl⟩
   ·have h1':=h1
    have h2':=h2
    cases h1 with
    | tup p1 t1=>
     cases h2 with
     | tup p2 t2=>
      rename_i a xs c ys
      cases rx
      cases ry
      by_cases ne:a=c
      ·subst ne
       rw [UH I sb (n+1) h1' h2' h]
       exact EqAt.same _
      ·exact EqAt.of_refs ne (Vm I (fun a1 a2 a3 a4 a5=>ih hu1 a1 a2 a3 a4 a5) (qF sb p1) (qF sb p2) t1 t2 h (by omega))
   ·have h1':=h1
    have h2':=h2
    cases h1 with
    | lst p1 t1=>
     cases h2 with
     | lst p2 t2=>
      rename_i a xs c ys
      cases rx
      cases ry
      by_cases ne:a=c
      ·subst ne
       rw [UH I sb (n+1) h1' h2' h]
       exact EqAt.same _
      ·exact EqAt.of_refs ne (Vn I (fun a1 a2 a3 a4 a5=>ih hu1 a1 a2 a3 a4 a5) (sb.seq p1) (sb.seq p2) t1 t2 h (by omega))
  ·have e1:eqN (n+1) d e=eqS d e:=Vl (fun xs ys a1 a2=>both (.inl ⟨xs,ys,a1,a2⟩)) (fun xs ys a1 a2=>both (.inr ⟨xs,ys,a1,a2⟩))
   have e2:eqN n d e=eqS d e:=Vl (fun xs ys a1 a2=>both (.inl ⟨xs,ys,a1,a2⟩)) (fun xs ys a1 a2=>both (.inr ⟨xs,ys,a1,a2⟩))
   exact ih (by omega) h1 h2 rx ry (by rw [e2,<-e1]; exact h)
end
end L2.D2
namespace L2.D2
open PySem PySem.Spec PyProof.Rows
open PySem.SeqAt
section
variable {X:Cx} {pins:List (Addr×Obj)} {σ:St} {F H:Hp} {s:Shared}
theorem Zi {A:Around} {n:Nat} {a c:Addr} {xs ys:List V} {ds es:List D} {b:Bool} (I:Inv X pins σ H s) (ih:∀ {v w:V} {d e:D} {u t:Value} {b:Bool},Is X.K F v d->Is X.K F w e->RelV v u->RelV w t->eqN n d e=some b->EqAt A.in1 s u t b)
  (p1:SqT X.K H a xs) (p2:SqT X.K H c ys) (i1:IsL X.K F xs ds) (i2:IsL X.K F ys es) (h:eqN (n+1) (.tup ds) (.tup es)=some b) (hu:A.units < cLine):RcNeAt A s (.ref a) (.ref c) (!b):=by
 obtain ⟨us,r1,t1,_⟩:=I.tuple p1
 obtain ⟨ws,r2,t2,_⟩:=I.tuple p2
 simp only [eqN] at h
 cases q:wc (eqN n) ds es with
 | none=>rw [q] at h; simp at h
 | some k=>
  rw [q] at h
  have l1:us.toArray.size=ds.length:=by rw [List.size_toArray,<-r1.length,i1.length]
  have l2:ws.toArray.size=es.length:=by rw [List.size_toArray,<-r2.length,i2.length]
  have z:=RcNeAt.tuples (A:=A) t1 t2 hu (wC (A:=A.in1) ih r1 r2 i1 i2 q)
  rw [l1,l2,<-vm q] at z
  have e:b=(k&&ds.length == es.length):=by simpa using h.symm
  rw [e]; exact z
theorem Zj {A:Around} {n:Nat} {a c:Addr} {xs ys:List V} {ds es:List D} {b:Bool} (I:Inv X pins σ H s) (ih:∀ {v w:V} {d e:D} {u t:Value} {b:Bool},Is X.K F v d->Is X.K F w e->RelV v u->RelV w t->eqN n d e=some b->EqAt A.in1 s u t b)
  (p1:SqL X.K H a xs) (p2:SqL X.K H c ys) (i1:IsL X.K F xs ds) (i2:IsL X.K F ys es) (h:eqN (n+1) (.lst ds) (.lst es)=some b) (hu:A.units < cLine):RcNeAt A s (.ref a) (.ref c) (!b):=by
 obtain ⟨us,r1,t1,_⟩:=I.list p1
 obtain ⟨ws,r2,t2,_⟩:=I.list p2
 have l1:us.toArray.size=ds.length:=by rw [List.size_toArray,<-r1.length,i1.length]
 have l2:ws.toArray.size=es.length:=by rw [List.size_toArray,<-r2.length,i2.length]
 simp only [eqN] at h
 by_cases hl:ds.length=es.length
 ·rw [if_pos hl] at h
  have z:=RcNeAt.lists (A:=A) t1.isList t2.isList (by omega) hu (wC (A:=A.in1) ih r1 r2 i1 i2 h)
  have e:=vm h
  rw [l1] at z
  rw [e,show min ds.length es.length=ds.length by omega]
  exact z
 ·rw [if_neg hl] at h
  cases h
  exact RcNeAt.lists_lengths t1.isList t2.isList (bne_iff_ne.mpr (by rw [l1,l2]; exact hl)) hu
theorem qcD (I:Inv X pins σ H s) (sb:Same F H) {n:Nat} {A:Around} {v w:V} {d e:D} {u t:Value} {b:Bool} (hu':A.units+n+1 < cLine) (t1:TopIs X.K F H v d) (t2:TopIs X.K F H w e) (rx:RelV v u) (ry:RelV w t) (h:eqN (n+1) d e=some b):RcAt A s u t b:=by
 have hu:A.units < cLine:=by omega
 have ih:∀ {v w:V} {d e:D} {u t:Value} {b:Bool},Is X.K F v d->Is X.K F w e->RelV v u->RelV w t->eqN n d e=some b->EqAt A.in1 s u t b:=fun a1 a2 a3 a4 a5=>UI I sb n (by show A.units+1+n < cLine; omega) a1 a2 a3 a4 a5
 cases d with
 | non  =>
  obtain rfl:=t1.non; cases rx
  cases e with
  | non  => obtain rfl:=t2.non; cases ry; cases h; exact RcAt.none_none 
  | bl y=>obtain rfl:=t2.bl; cases ry; cases h; exact RcAt.none_bool _
  | int y=>obtain rfl:=t2.int; obtain ⟨_,rfl⟩:=ry; cases h; exact RcAt.none_int _ _
  | str y=>obtain ⟨rfl,_⟩:=t2.str; obtain ⟨_,rfl⟩:=ry; cases h; exact RcAt.none_str _ _
  | tup y=>obtain ⟨c,ys,rfl,p2,i2⟩:=t2.tup sb; cases ry; obtain ⟨_,_,q2,_⟩:=I.tuple p2; cases h; exact RcAt.none_tuple  q2 hu
  | lst y=>obtain ⟨c,ys,rfl,p2,i2⟩:=t2.lst sb; cases ry; obtain ⟨_,_,q2,_⟩:=I.list p2; cases h; exact RcAt.none_list  q2.isList hu
  | dct y=>cases h
  | raw y=>cases h
  | xcp y=>cases h
  | ins y z=>cases h
  | at_ y z=>cases h
 | bl x=>
  obtain rfl:=t1.bl; cases rx
  cases e with
  | non  => obtain rfl:=t2.non; cases ry; cases h; exact RcAt.bool_none _
  | bl y=>obtain rfl:=t2.bl; cases ry; cases h; exact RcAt.bool_bool _ _
  | int y=>obtain rfl:=t2.int; obtain ⟨_,rfl⟩:=ry; cases h; exact RcAt.bool_int _ _ _
  | str y=>obtain ⟨rfl,_⟩:=t2.str; obtain ⟨_,rfl⟩:=ry; cases h; exact RcAt.bool_str _ _ _
  | tup y=>obtain ⟨c,ys,rfl,p2,i2⟩:=t2.tup sb; cases ry; obtain ⟨_,_,q2,_⟩:=I.tuple p2; cases h; exact RcAt.bool_tuple _ q2 hu
  | lst y=>obtain ⟨c,ys,rfl,p2,i2⟩:=t2.lst sb; cases ry; obtain ⟨_,_,q2,_⟩:=I.list p2; cases h; exact RcAt.bool_list _ q2.isList hu
  | dct y=>cases h
  | raw y=>cases h
  | xcp y=>cases h
  | ins y z=>cases h
  | at_ y z=>cases h
 | int x=>
  obtain rfl:=t1.int; obtain ⟨_,rfl⟩:=rx
  cases e with
  | non  => obtain rfl:=t2.non; cases ry; cases h; exact RcAt.int_none _ _
  | bl y=>obtain rfl:=t2.bl; cases ry; cases h; exact RcAt.int_bool _ _ _
  | int y=>obtain rfl:=t2.int; obtain ⟨_,rfl⟩:=ry; cases h; exact RcAt.int_int _ _ _ _
  | str y=>obtain ⟨rfl,_⟩:=t2.str; obtain ⟨_,rfl⟩:=ry; cases h; exact RcAt.int_str _ _ _ _
  | tup y=>obtain ⟨c,ys,rfl,p2,i2⟩:=t2.tup sb; cases ry; obtain ⟨_,_,q2,_⟩:=I.tuple p2; cases h; exact RcAt.int_tuple _ _ q2 hu
  | lst y=>obtain ⟨c,ys,rfl,p2,i2⟩:=t2.lst sb; cases ry; obtain ⟨_,_,q2,_⟩:=I.list p2; cases h; exact RcAt.int_list _ _ q2.isList hu
  | dct y=>cases h
  | raw y=>cases h
  | xcp y=>cases h
  | ins y z=>cases h
  | at_ y z=>cases h
 | str x=>
  obtain ⟨rfl,_⟩:=t1.str; obtain ⟨_,rfl⟩:=rx
  cases e with
  | non  => obtain rfl:=t2.non; cases ry; cases h; exact RcAt.str_none _ _
  | bl y=>obtain rfl:=t2.bl; cases ry; cases h; exact RcAt.str_bool _ _ _
  | int y=>obtain rfl:=t2.int; obtain ⟨_,rfl⟩:=ry; cases h; exact RcAt.str_int _ _ _ _
  | str y=>obtain ⟨rfl,_⟩:=t2.str; obtain ⟨_,rfl⟩:=ry; cases h; exact RcAt.str_str _ _ _ _
  | tup y=>obtain ⟨c,ys,rfl,p2,i2⟩:=t2.tup sb; cases ry; obtain ⟨_,_,q2,_⟩:=I.tuple p2; cases h; exact RcAt.str_tuple _ _ q2 hu
  | lst y=>obtain ⟨c,ys,rfl,p2,i2⟩:=t2.lst sb; cases ry; obtain ⟨_,_,q2,_⟩:=I.list p2; cases h; exact RcAt.str_list _ _ q2.isList hu
  | dct y=>cases h
  | raw y=>cases h
  | xcp y=>cases h
  | ins y z=>cases h
  | at_ y z=>cases h
 | tup x=>
  obtain ⟨a,xs,rfl,p1,i1⟩:=t1.tup sb; cases rx; obtain ⟨_,_,q1,_⟩:=I.tuple p1
  cases e with
  | non  => obtain rfl:=t2.non; cases ry; cases h; exact RcAt.tuple_none  q1 hu
  | bl y=>obtain rfl:=t2.bl; cases ry; cases h; exact RcAt.tuple_bool _ q1 hu
  | int y=>obtain rfl:=t2.int; obtain ⟨_,rfl⟩:=ry; cases h; exact RcAt.tuple_int _ _ q1 hu
  | str y=>obtain ⟨rfl,_⟩:=t2.str; obtain ⟨_,rfl⟩:=ry; cases h; exact RcAt.tuple_str _ _ q1 hu
  | tup y=>obtain ⟨c,ys,rfl,p2,i2⟩:=t2.tup sb; cases ry; obtain ⟨_,_,q2,_⟩:=I.tuple p2; exact Vm I ih p1 p2 i1 i2 h hu
  | lst y=>obtain ⟨c,ys,rfl,p2,i2⟩:=t2.lst sb; cases ry; obtain ⟨_,_,q2,_⟩:=I.list p2; cases h; exact RcAt.tuple_list q1 q2.isList hu
  | dct y=>cases h
  | raw y=>cases h
  | xcp y=>cases h
  | ins y z=>cases h
  | at_ y z=>cases h
 | lst x=>
  obtain ⟨a,xs,rfl,p1,i1⟩:=t1.lst sb; cases rx; obtain ⟨_,_,q1,_⟩:=I.list p1
  cases e with
  | non  => obtain rfl:=t2.non; cases ry; cases h; exact RcAt.list_none  q1.isList hu
  | bl y=>obtain rfl:=t2.bl; cases ry; cases h; exact RcAt.list_bool _ q1.isList hu
  | int y=>obtain rfl:=t2.int; obtain ⟨_,rfl⟩:=ry; cases h; exact RcAt.list_int _ _ q1.isList hu
  | str y=>obtain ⟨rfl,_⟩:=t2.str; obtain ⟨_,rfl⟩:=ry; cases h; exact RcAt.list_str _ _ q1.isList hu
  | tup y=>obtain ⟨c,ys,rfl,p2,i2⟩:=t2.tup sb; cases ry; obtain ⟨_,_,q2,_⟩:=I.tuple p2; cases h; exact RcAt.list_tuple q1.isList q2 hu
  | lst y=>obtain ⟨c,ys,rfl,p2,i2⟩:=t2.lst sb; cases ry; obtain ⟨_,_,q2,_⟩:=I.list p2; exact Vn I ih p1 p2 i1 i2 h hu
  | dct y=>cases h
  | raw y=>cases h
  | xcp y=>cases h
  | ins y z=>cases h
  | at_ y z=>cases h
 | dct x=>cases e <;> cases h
 | raw x=>cases e <;> cases h
 | xcp x=>cases e <;> cases h
 | ins x z=>cases e <;> cases h
 | at_ x z=>cases e <;> cases h
theorem qcE (I:Inv X pins σ H s) (sb:Same F H) {n:Nat} {A:Around} {v w:V} {d e:D} {u t:Value} {b:Bool} (hu':A.units+n+1 < cLine) (t1:TopIs X.K F H v d) (t2:TopIs X.K F H w e) (rx:RelV v u) (ry:RelV w t) (h:eqN (n+1) d e=some b):RcNeAt A s u t (!b):=by
 have hu:A.units < cLine:=by omega
 have ih:∀ {v w:V} {d e:D} {u t:Value} {b:Bool},Is X.K F v d->Is X.K F w e->RelV v u->RelV w t->eqN n d e=some b->EqAt A.in1 s u t b:=fun a1 a2 a3 a4 a5=>UI I sb n (by show A.units+1+n < cLine; omega) a1 a2 a3 a4 a5
 cases d with
 | non  =>
  obtain rfl:=t1.non; cases rx
  cases e with
  | non  => obtain rfl:=t2.non; cases ry; cases h; exact RcNeAt.none_none 
  | bl y=>obtain rfl:=t2.bl; cases ry; cases h; exact RcNeAt.none_bool _
  | int y=>obtain rfl:=t2.int; obtain ⟨_,rfl⟩:=ry; cases h; exact RcNeAt.none_int _ _
  | str y=>obtain ⟨rfl,_⟩:=t2.str; obtain ⟨_,rfl⟩:=ry; cases h; exact RcNeAt.none_str _ _
  | tup y=>obtain ⟨c,ys,rfl,p2,i2⟩:=t2.tup sb; cases ry; obtain ⟨_,_,q2,_⟩:=I.tuple p2; cases h; exact RcNeAt.none_tuple  q2 hu
  | lst y=>obtain ⟨c,ys,rfl,p2,i2⟩:=t2.lst sb; cases ry; obtain ⟨_,_,q2,_⟩:=I.list p2; cases h; exact RcNeAt.none_list  q2.isList hu
  | dct y=>cases h
  | raw y=>cases h
  | xcp y=>cases h
  | ins y z=>cases h
  | at_ y z=>cases h
 | bl x=>
  obtain rfl:=t1.bl; cases rx
  cases e with
  | non  => obtain rfl:=t2.non; cases ry; cases h; exact RcNeAt.bool_none _
  | bl y=>obtain rfl:=t2.bl; cases ry; cases h; exact RcNeAt.bool_bool _ _
  | int y=>obtain rfl:=t2.int; obtain ⟨_,rfl⟩:=ry; cases h; exact RcNeAt.bool_int _ _ _
  | str y=>obtain ⟨rfl,_⟩:=t2.str; obtain ⟨_,rfl⟩:=ry; cases h; exact RcNeAt.bool_str _ _ _
  | tup y=>obtain ⟨c,ys,rfl,p2,i2⟩:=t2.tup sb; cases ry; obtain ⟨_,_,q2,_⟩:=I.tuple p2; cases h; exact RcNeAt.bool_tuple _ q2 hu
  | lst y=>obtain ⟨c,ys,rfl,p2,i2⟩:=t2.lst sb; cases ry; obtain ⟨_,_,q2,_⟩:=I.list p2; cases h; exact RcNeAt.bool_list _ q2.isList hu
  | dct y=>cases h
  | raw y=>cases h
  | xcp y=>cases h
  | ins y z=>cases h
  | at_ y z=>cases h
 | int x=>
  obtain rfl:=t1.int; obtain ⟨_,rfl⟩:=rx
  cases e with
  | non  => obtain rfl:=t2.non; cases ry; cases h; exact RcNeAt.int_none _ _
  | bl y=>obtain rfl:=t2.bl; cases ry; cases h; exact RcNeAt.int_bool _ _ _
  | int y=>obtain rfl:=t2.int; obtain ⟨_,rfl⟩:=ry; cases h; exact RcNeAt.int_int _ _ _ _
  | str y=>obtain ⟨rfl,_⟩:=t2.str; obtain ⟨_,rfl⟩:=ry; cases h; exact RcNeAt.int_str _ _ _ _
  | tup y=>obtain ⟨c,ys,rfl,p2,i2⟩:=t2.tup sb; cases ry; obtain ⟨_,_,q2,_⟩:=I.tuple p2; cases h; exact RcNeAt.int_tuple _ _ q2 hu
  | lst y=>obtain ⟨c,ys,rfl,p2,i2⟩:=t2.lst sb; cases ry; obtain ⟨_,_,q2,_⟩:=I.list p2; cases h; exact RcNeAt.int_list _ _ q2.isList hu
  | dct y=>cases h
  | raw y=>cases h
  | xcp y=>cases h
  | ins y z=>cases h
  | at_ y z=>cases h
 | str x=>
  obtain ⟨rfl,_⟩:=t1.str; obtain ⟨_,rfl⟩:=rx
  cases e with
  | non  => obtain rfl:=t2.non; cases ry; cases h; exact RcNeAt.str_none _ _
  | bl y=>obtain rfl:=t2.bl; cases ry; cases h; exact RcNeAt.str_bool _ _ _
  | int y=>obtain rfl:=t2.int; obtain ⟨_,rfl⟩:=ry; cases h; exact RcNeAt.str_int _ _ _ _
  | str y=>obtain ⟨rfl,_⟩:=t2.str; obtain ⟨_,rfl⟩:=ry; cases h; exact RcNeAt.str_str _ _ _ _
  | tup y=>obtain ⟨c,ys,rfl,p2,i2⟩:=t2.tup sb; cases ry; obtain ⟨_,_,q2,_⟩:=I.tuple p2; cases h; exact RcNeAt.str_tuple _ _ q2 hu
  | lst y=>obtain ⟨c,ys,rfl,p2,i2⟩:=t2.lst sb; cases ry; obtain ⟨_,_,q2,_⟩:=I.list p2; cases h; exact RcNeAt.str_list _ _ q2.isList hu
  | dct y=>cases h
  | raw y=>cases h
  | xcp y=>cases h
  | ins y z=>cases h
  | at_ y z=>cases h
 | tup x=>
  obtain ⟨a,xs,rfl,p1,i1⟩:=t1.tup sb; cases rx; obtain ⟨_,_,q1,_⟩:=I.tuple p1
  cases e with
  | non  => obtain rfl:=t2.non; cases ry; cases h; exact RcNeAt.tuple_none  q1 hu
  | bl y=>obtain rfl:=t2.bl; cases ry; cases h; exact RcNeAt.tuple_bool _ q1 hu
  | int y=>obtain rfl:=t2.int; obtain ⟨_,rfl⟩:=ry; cases h; exact RcNeAt.tuple_int _ _ q1 hu
  | str y=>obtain ⟨rfl,_⟩:=t2.str; obtain ⟨_,rfl⟩:=ry; cases h; exact RcNeAt.tuple_str _ _ q1 hu
  | tup y=>obtain ⟨c,ys,rfl,p2,i2⟩:=t2.tup sb; cases ry; obtain ⟨_,_,q2,_⟩:=I.tuple p2; exact Zi I ih p1 p2 i1 i2 h hu
  | lst y=>obtain ⟨c,ys,rfl,p2,i2⟩:=t2.lst sb; cases ry; obtain ⟨_,_,q2,_⟩:=I.list p2; cases h; exact RcNeAt.tuple_list q1 q2.isList hu
  | dct y=>cases h
  | raw y=>cases h
  | xcp y=>cases h
  | ins y z=>cases h
  | at_ y z=>cases h
 | lst x=>
  obtain ⟨a,xs,rfl,p1,i1⟩:=t1.lst sb; cases rx; obtain ⟨_,_,q1,_⟩:=I.list p1
  cases e with
  | non  => obtain rfl:=t2.non; cases ry; cases h; exact RcNeAt.list_none  q1.isList hu
  | bl y=>obtain rfl:=t2.bl; cases ry; cases h; exact RcNeAt.list_bool _ q1.isList hu
  | int y=>obtain rfl:=t2.int; obtain ⟨_,rfl⟩:=ry; cases h; exact RcNeAt.list_int _ _ q1.isList hu
  | str y=>obtain ⟨rfl,_⟩:=t2.str; obtain ⟨_,rfl⟩:=ry; cases h; exact RcNeAt.list_str _ _ q1.isList hu
  | tup y=>obtain ⟨c,ys,rfl,p2,i2⟩:=t2.tup sb; cases ry; obtain ⟨_,_,q2,_⟩:=I.tuple p2; cases h; exact RcNeAt.list_tuple q1.isList q2 hu
  | lst y=>obtain ⟨c,ys,rfl,p2,i2⟩:=t2.lst sb; cases ry; obtain ⟨_,_,q2,_⟩:=I.list p2; exact Zj I ih p1 p2 i1 i2 h hu
  | dct y=>cases h
  | raw y=>cases h
  | xcp y=>cases h
  | ins y z=>cases h
  | at_ y z=>cases h
 | dct x=>cases e <;> cases h
 | raw x=>cases e <;> cases h
 | xcp x=>cases e <;> cases h
 | ins x z=>cases e <;> cases h
 | at_ x z=>cases e <;> cases h
end
noncomputable def eqD (a b:D):Out D:=match eqN 8 a b with
 | some c=>.ok (.bl c)
 | none=>.bad
noncomputable def neD (a b:D):Out D:=match eqN 8 a b with
 | some c=>.ok (.bl (!c))
 | none=>.bad
section
variable {X:Cx} {C:Ct}
theorem we (hK:C.K=X.K) (hu:X.A.units+64 < cLine):OpD X C .sh (compareOp .Eq) eqD:=by
 intro pins s σ H x y v u Q I rx ry h
 obtain ⟨F,dx,dy,sb,tx,ty,po⟩:=h
 rw [hK] at tx ty
 unfold eqD at po
 cases e:eqN 8 dx dy with
 | none=>rw [e] at po; exact po.elim
 | some c=>
  rw [e] at po
  exact qcD I sb (n:=7) (by omega) tx ty rx ry e _ _ _ _ ⟨.bl c,H,I,rfl,po _ F H sb .refl (.bl _)⟩
theorem xC (hK:C.K=X.K) (hu:X.A.units+64 < cLine):OpD X C .sh (compareOp .NotEq) neD:=by
 intro pins s σ H x y v u Q I rx ry h
 obtain ⟨F,dx,dy,sb,tx,ty,po⟩:=h
 rw [hK] at tx ty
 unfold neD at po
 cases e:eqN 8 dx dy with
 | none=>rw [e] at po; exact po.elim
 | some c=>
  rw [e] at po
  exact qcE I sb (n:=7) (by omega) tx ty rx ry e _ _ _ _ ⟨.bl _,H,I,rfl,po _ F H sb .refl (.bl _)⟩
end
end L2.D2
namespace L2.D2
open PySem PySem.Spec PyProof.Rows
open PySem.SeqAt
section
variable {X:Cx} {pins:List (Addr×Obj)} {σ:St} {F H:Hp} {s:Shared}
theorem qaK (I:Inv X pins σ H s) (sb:Same F H):∀ (n:Nat) {v:V} {d d' e:D} {b b':Bool},Is X.K F v d->Is X.K F v d'->eqN n d e=some b->eqN n d' e=some b'->b=b':=by
 have notTL:∀ {a:Addr} {xs ys:List V},SqT X.K F a xs->SqL X.K F a ys->False:=fun p q=>by
  obtain ⟨_,_,q1,_⟩:=I.list (sb.seq q)
  obtain ⟨_,_,q2,_⟩:=I.tuple (qF sb p)
  exact absurd rfl (ne_of_list_tuple q1.isList q2)
 intro n
 induction n with
 | zero=>
  intro v d d' e b b' h1 h2 e1 e2
  have e1:eqS d e=some b:=e1
  have e2:eqS d' e=some b':=e2
  cases h1 <;> cases h2 <;> cases e <;> simp only [eqS] at e1 e2 <;> first
   | (cases e1; cases e2; rfl)
   | (cases e1; done)
   | (cases e2; done)
   | exact (notTL (by assumption) (by assumption)).elim
 | succ n ih=>
  have lists:∀ {xs:List V} {ds ds' es:List D} {b b':Bool},IsL X.K F xs ds->IsL X.K F xs ds'->wc (eqN n) ds es=some b->wc (eqN n) ds' es=some b'->b=b':=by
   intro xs
   induction xs with
   | nil=>intro ds ds' es b b' h1 h2 e1 e2; cases h1; cases h2; simp only [wc] at e1 e2; cases e1; cases e2; rfl
   | cons x xs ihx=>
    intro ds ds' es b b' h1 h2 e1 e2
    cases h1 with
    | cons a1 t1=>
     cases h2 with
     | cons a2 t2=>
      rename_i d ds d' ds'
      cases es with
      | nil=>simp only [wc] at e1 e2; cases e1; cases e2; rfl
      | cons e es=>
       unfold wc at e1 e2
       cases q:eqN n d e with
       | none=>rw [q] at e1; simp at e1
       | some k=>
        cases q2:eqN n d' e with
        | none=>rw [q2] at e2; simp at e2
        | some k'=>
         cases q3:wc (eqN n) ds es with
         | none=>rw [q,q3] at e1; simp at e1
         | some k3=>
          cases q4:wc (eqN n) ds' es with
          | none=>rw [q2,q4] at e2; simp at e2
          | some k4=>
           rw [q,q3] at e1
           rw [q2,q4] at e2
           rw [ih a1 a2 q q2,ihx t1 t2 q3 q4] at e1
           have e1:some (k'&&k4)=some b:=e1
           have e2:some (k'&&k4)=some b':=e2
           rw [e1] at e2
           exact Option.some.inj e2
  intro v d d' e b b' h1 h2 e1 e2
  cases h1 with
  | tup p1 t1=>
   cases h2 with
   | tup p2 t2=>
    have q:=I.tuple_inj (qF sb p1) (qF sb p2)
    subst q
    have hl:=t1.length.symm.trans t2.length
    cases e with
    | tup es=>
     rename_i ds ds'
     simp only [eqN] at e1 e2
     cases q3:wc (eqN n) ds es with
     | none=>rw [q3] at e1; simp at e1
     | some k3=>
      cases q4:wc (eqN n) ds' es with
      | none=>rw [q4] at e2; simp at e2
      | some k4=>
       rw [q3] at e1
       rw [q4] at e2
       rw [lists t1 t2 q3 q4,hl] at e1
       exact Option.some.inj (e1.symm.trans e2)
    | _=>simp only [eqN,eqS] at e1 e2 <;> first | (cases e1; cases e2; rfl) | (cases e1; done)
   | lst p2 t2=>exact (notTL p1 p2).elim
   | _=>cases e <;> simp [eqN,eqS] at e2
  | lst p1 t1=>
   cases h2 with
   | lst p2 t2=>
    have q:=I.list_inj (sb.seq p1) (sb.seq p2)
    subst q
    have hl:=t1.length.symm.trans t2.length
    cases e with
    | lst es=>
     rename_i ds ds'
     simp only [eqN] at e1 e2
     rw [hl] at e1
     by_cases z:ds'.length=es.length
     ·rw [if_pos z] at e1 e2
      exact lists t1 t2 e1 e2
     ·rw [if_neg z] at e1 e2
      exact Option.some.inj (e1.symm.trans e2)
    | _=>simp only [eqN,eqS] at e1 e2 <;> first | (cases e1; cases e2; rfl) | (cases e1; done)
   | tup p2 t2=>exact (notTL p2 p1).elim
   | _=>cases e <;> simp [eqN,eqS] at e2
  | _=>cases h2 <;> cases e <;> simp only [eqN,eqS] at e1 e2 <;> first
   | (cases e1; cases e2; rfl)
   | (cases e1; done)
   | (cases e2; done)
open Classical in
noncomputable def XH (X:Cx) (F:Hp) (n:Nat) (e:D) (u:Value):Bool:=decide (∃ v d,Is X.K F v d/\RelV v u/\eqN n d e=some true)
open Classical in
theorem qaL (I:Inv X pins σ H s) (sb:Same F H) {n:Nat} {v:V} {d e:D} {u:Value} {b:Bool} (h:Is X.K F v d) (r:RelV v u) (q:eqN n d e=some b):XH X F n e u=b:=by
 unfold XH
 cases b with
 | true=>exact decide_eq_true ⟨v,d,h,r,q⟩
 | false=>
  refine decide_eq_false ?_
  rintro ⟨w,d',h',r',q'⟩
  have e:=r.inj r'
  subst e
  exact absurd (qaK I sb n h h' q q') (by decide)
noncomputable def JM (n:Nat) (e:D):List D->Option Bool
 | []=>some false
 | d::ds=>(eqN n d e).bind fun a=>(JM n e ds).bind fun b=>some (a||b)
theorem UJ {n:Nat} {e d:D} {ds:List D} {b:Bool} (h:JM n e (d::ds)=some b):∃ a c,eqN n d e=some a/\JM n e ds=some c/\b=(a||c):=by
 unfold JM at h
 cases q:eqN n d e with
 | none=>rw [q] at h; simp at h
 | some a=>
  cases q2:JM n e ds with
  | none=>rw [q,q2] at h; simp at h
  | some c=>rw [q,q2] at h; exact ⟨a,c,rfl,rfl,(Option.some.inj h).symm⟩
theorem UK (I:Inv X pins σ H s) (sb:Same F H) {n:Nat} {e:D}:∀ {vs:List V} {ds:List D} {us:List Value} {b:Bool},IsL X.K F vs ds->Vals vs us->JM n e ds=some b->us.any (XH X F n e)=b/\∀ u∈us,∃ v d a,Is X.K F v d/\RelV v u/\eqN n d e=some a/\XH X F n e u=a
 | _,_,_,b,.nil,.nil,h=>⟨by simpa using (Option.some.inj h),fun u hu=>nomatch hu⟩
 | _,_,_,b,.cons i t,.cons r rs,h=>by
  obtain ⟨a,c,q1,q2,rfl⟩:=UJ h
  obtain ⟨ih1,ih2⟩:=UK I sb t rs q2
  have e1:=qaL I sb i r q1
  refine ⟨by rw [List.any_cons,e1,ih1],fun u hu=>?_⟩
  rcases List.mem_cons.mp hu with rfl | hu
  ·exact ⟨_,_,a,i,r,q1,e1⟩
  ·exact ih2 u hu
end
noncomputable def inD (x y:D):Out Bool:=match y with
 | .lst ds=>match JM 7 x ds with
  | some b=>.ok b
  | none=>.bad
 | .tup ds=>match JM 7 x ds with
  | some b=>.ok b
  | none=>.bad
 | _=>.bad
noncomputable def qdL (x y:D):Out D:=(inD x y).bind fun b=>.ok (.bl b)
noncomputable def WA (x y:D):Out D:=(inD x y).bind fun b=>.ok (.bl (!b))
theorem TopIs.is {K:Frag} {F H:Hp} {v:V} {d:D} (s:Same F H) (h:TopIs K F H v d):∃ F',Same F F'/\Same F' H/\Is K F' v d:=by
 rcases h with h | ⟨a,rfl,o⟩
 ·exact ⟨F,Same.refl _,s,h⟩
 ·obtain ⟨u,hu⟩:∃ u,H a=some u:=by
   cases q:H a with
   | none=>exact absurd q o.there
   | some u=>exact ⟨u,rfl⟩
  by_cases hF:F a=none
  ·have gr:Same F (upd F a u):=fun b w e=>by rw [qA (qE e hF)]; exact e
   refine ⟨upd F a u,gr,fun b w e=>?_,?_⟩
   ·by_cases q:b=a
    ·subst q; rw [qo] at e; cases e; exact hu
    ·rw [qA q] at e; exact s b w e
   ·cases d with
    | lst ds=>obtain ⟨xs,e,t⟩:=o; rw [hu] at e; cases e; exact .lst (.inl (.inl qo)) (t.mono gr)
    | dct ds=>obtain ⟨xs,e,t⟩:=o; rw [hu] at e; cases e; exact .dct qo (t.mono gr)
    | ins C fs=>obtain ⟨dx,xs,e,t⟩:=o; rw [hu] at e; cases e; exact .ins qo (t.mono gr)
    | at_ b ds=>obtain ⟨eb,xs,e,t⟩:=o; rw [hu] at e; cases e; subst eb; exact .at_ (.inl (.inl qo)) (t.mono gr)
    | _=>exact o.elim
  ·obtain ⟨w,hw⟩:∃ w,F a=some w:=by
    cases q:F a with
    | none=>exact absurd q hF
    | some w=>exact ⟨w,rfl⟩
   have e:=s a w hw
   cases d with
   | lst ds=>obtain ⟨xs,e',t⟩:=o; rw [e'] at e; cases e; exact ⟨F,Same.refl _,s,.lst (.inl (.inl hw)) t⟩
   | dct ds=>obtain ⟨xs,e',t⟩:=o; rw [e'] at e; cases e; exact ⟨F,Same.refl _,s,.dct hw t⟩
   | ins C fs=>obtain ⟨dx,xs,e',t⟩:=o; rw [e'] at e; cases e; exact ⟨F,Same.refl _,s,.ins hw t⟩
   | at_ b ds=>obtain ⟨eb,xs,e',t⟩:=o; rw [e'] at e; cases e; subst eb; exact ⟨F,Same.refl _,s,.at_ (.inl (.inl hw)) t⟩
   | _=>exact o.elim
section
variable {X:Cx} {C:Ct}
theorem Vo {pins:List (Addr×Obj)} {σ:St} {F H:Hp} {s:Shared} {A:Around} {y x:V} {dx:D} {ds:List D} {b:Bool} {u v:Value} {a:Addr} {us:List Value} {xs:List V} (I:Inv X pins σ H s) (hu:A.units+64 < cLine) (sb:Same F H) (ix:Is X.K F x dx) (rx:RelV x v)
  (il:IsL X.K F xs ds) (r:Vals xs us) (h:JM 7 dx ds=some b):us.any (XH X F 7 dx)=b/\∀ w,w∈us.toArray->EqAt A.in1 s w v (XH X F 7 dx w):=by
 obtain ⟨h1,h2⟩:=UK I sb il r h
 refine ⟨h1,fun w hw=>?_⟩
 obtain ⟨vv,d,k,i1,r1,q,e⟩:=h2 w (by simpa using hw)
 rw [e]
 exact UI I sb 7 (by show A.units+1+7 < cLine; omega) i1 ix r1 rx q
theorem qez (hK:C.K=X.K) (hu:X.A.units+64 < cLine):OpD X C .sh (compareOp .In) qdL:=by
 intro pins s σ H x y v u Q I rx ry h
 obtain ⟨F,dx,dy,sb,tx,ty,po⟩:=h
 rw [hK] at tx ty
 unfold qdL inD at po
 obtain ⟨F',g',sb',ix⟩:=tx.is sb
 cases dy with
 | lst ds=>
  cases e:JM 7 dx ds with
  | none=>simp only [e] at po; exact po.elim
  | some b=>
   simp only [e] at po
   obtain ⟨a,xs,rfl,p,il⟩:=ty.lst sb
   cases ry
   obtain ⟨us,r,pl,_⟩:=I.list p
   obtain ⟨h1,h2⟩:=Vo (A:=X.A) (y:=.non) (a:=a) (u:=.none) I hu sb' ix rx (il.mono g') r e
   refine in_listAt (XH X F' 7 dx) pl.isList h2 ⟨.bl b,H,I,by show _=_; rw [<-h1]; simp,po _ F H sb .refl (.bl _)⟩
 | tup ds=>
  cases e:JM 7 dx ds with
  | none=>simp only [e] at po; exact po.elim
  | some b=>
   simp only [e] at po
   obtain ⟨a,xs,rfl,p,il⟩:=ty.tup sb
   cases ry
   obtain ⟨us,r,pl,_⟩:=I.tuple p
   obtain ⟨h1,h2⟩:=Vo (A:=X.A) (y:=.non) (a:=a) (u:=.none) I hu sb' ix rx (il.mono g') r e
   refine in_tupleAt (XH X F' 7 dx) pl h2 ⟨.bl b,H,I,by show _=_; rw [<-h1]; simp,po _ F H sb .refl (.bl _)⟩
 | _=>exact po.elim
theorem Zk (hK:C.K=X.K) (hu:X.A.units+64 < cLine):OpD X C .sh (compareOp .NotIn) WA:=by
 intro pins s σ H x y v u Q I rx ry h
 obtain ⟨F,dx,dy,sb,tx,ty,po⟩:=h
 rw [hK] at tx ty
 unfold WA inD at po
 obtain ⟨F',g',sb',ix⟩:=tx.is sb
 cases dy with
 | lst ds=>
  cases e:JM 7 dx ds with
  | none=>simp only [e] at po; exact po.elim
  | some b=>
   simp only [e] at po
   obtain ⟨a,xs,rfl,p,il⟩:=ty.lst sb
   cases ry
   obtain ⟨us,r,pl,_⟩:=I.list p
   obtain ⟨h1,h2⟩:=Vo (A:=X.A) (y:=.non) (a:=a) (u:=.none) I hu sb' ix rx (il.mono g') r e
   refine notIn_listAt (XH X F' 7 dx) pl.isList h2 ⟨.bl (!b),H,I,by show _=_; rw [<-h1]; simp,po _ F H sb .refl (.bl _)⟩
 | tup ds=>
  cases e:JM 7 dx ds with
  | none=>simp only [e] at po; exact po.elim
  | some b=>
   simp only [e] at po
   obtain ⟨a,xs,rfl,p,il⟩:=ty.tup sb
   cases ry
   obtain ⟨us,r,pl,_⟩:=I.tuple p
   obtain ⟨h1,h2⟩:=Vo (A:=X.A) (y:=.non) (a:=a) (u:=.none) I hu sb' ix rx (il.mono g') r e
   refine notIn_tupleAt (XH X F' 7 dx) pl h2 ⟨.bl (!b),H,I,by show _=_; rw [<-h1]; simp,po _ F H sb .refl (.bl _)⟩
 | _=>exact po.elim
end
end L2.D2
namespace L2.D2
open PySem PySem.Spec PyProof.Rows
def PoT (C:Ct) (own:List Nat) (σ:St) (F H:Hp) (r:Out (Bool×Sl)) (Q:Bool->Hp->Prop):Prop:=match r with
 | .ok (b,ρ')=>∀ F' H',Rep C.K own F' H' σ ρ'->Chg (OA own σ) F H F' H'->Q b H'
 | .exc c ρ'=>∀ F' H',Same F' H'->XG C.K C.ox F' H' σ ρ'->Chg (OA own σ) F H F' H'->C.E (C.cv c) none H'
 | .bad=>False
def tT (C:Ct) (own:List Nat) (f:Sl->Out (Bool×Sl)):TT:=fun σ H Q=>∃ F ρ,Rep C.K own F H σ ρ/\PoT C own σ F H (f ρ) Q
theorem PoT.shift {C:Ct} {own:List Nat} {σ:St} {F H F1 H1:Hp} {r:Out (Bool×Sl)} {Q:Bool->Hp->Prop} (h:PoT C own σ F H r Q) (c:Chg (OA own σ) F H F1 H1):PoT C own σ F1 H1 r Q:=by
 cases r with
 | ok p=>exact fun F' H' rp c'=>h F' H' rp (c.trans' c')
 | exc x=>exact fun F' H' s io c'=>h F' H' s io (c.trans' c')
 | bad=>exact h.elim
theorem PoT.bindV {C:Ct} {own:List Nat} {ma:Mo} {σ:St} {F H:Hp} {o:Out (D×Sl)} {k:D×Sl->Out (Bool×Sl)} {Q:Bool->Hp->Prop} {R:VK} (hp:PoT C own σ F H (o.bind k) Q)
  (h:∀ v F1 H1 d ρ1,Rep C.K own F1 H1 σ ρ1->Chg (OA own σ) F H F1 H1->MoIs C.K ma H F1 H1 v d->PoT C own σ F1 H1 (k (d,ρ1)) Q->R v H1):Po C own ma σ F H o R:=by
 cases o with
 | ok p=>
  obtain ⟨d,ρ1⟩:=p
  exact fun v F1 H1 rp c mo=>h v F1 H1 d ρ1 rp c mo (PoT.shift (show PoT C own σ F H (k (d,ρ1)) Q from hp) c)
 | exc x=>exact hp
 | bad=>exact hp.elim
theorem PoT.bindT {C:Ct} {own:List Nat} {σ:St} {F H:Hp} {o:Out (Bool×Sl)} {k:Bool×Sl->Out (Bool×Sl)} {Q R:Bool->Hp->Prop} (hp:PoT C own σ F H (o.bind k) Q)
  (h:∀ F1 H1 b ρ1,Rep C.K own F1 H1 σ ρ1->Chg (OA own σ) F H F1 H1->PoT C own σ F1 H1 (k (b,ρ1)) Q->R b H1):PoT C own σ F H o R:=by
 cases o with
 | ok p=>
  obtain ⟨d,ρ1⟩:=p
  exact fun F1 H1 rp c=>h F1 H1 d ρ1 rp c (PoT.shift (show PoT C own σ F H (k (d,ρ1)) Q from hp) c)
 | exc x=>exact hp
 | bad=>exact hp.elim
theorem Po.bindT {C:Ct} {own:List Nat} {m:Mo} {σ:St} {F H:Hp} {o:Out (Bool×Sl)} {k:Bool×Sl->Out (D×Sl)} {Q:VK} {R:Bool->Hp->Prop} (hp:Po C own m σ F H (o.bind k) Q)
  (h:∀ F1 H1 b ρ1,Rep C.K own F1 H1 σ ρ1->Chg (OA own σ) F H F1 H1->Po C own m σ F1 H1 (k (b,ρ1)) Q->R b H1):PoT C own σ F H o R:=by
 cases o with
 | ok p=>
  obtain ⟨d,ρ1⟩:=p
  exact fun F1 H1 rp c=>h F1 H1 d ρ1 rp c (Po.shift (show Po C own m σ F H (k (d,ρ1)) Q from hp) c)
 | exc x=>exact hp
 | bad=>exact hp.elim
noncomputable def uY:D->Out Bool
 | .non=>.ok false
 | .bl b=>.ok b
 | .int i=>.ok (i != 0)
 | .str x=>.ok ((x.length:Int) != 0)
 | .tup xs=>.ok (!xs.isEmpty)
 | .lst xs=>.ok (!xs.isEmpty)
 | .dct xs=>.ok (!xs.isEmpty)
 | .raw _=>.bad
 | .xcp _=>.bad
 | .ins _ _=>.bad
 | .at_ _ _=>.bad
noncomputable def xD (f:Sl->Out (D×Sl)):Sl->Out (Bool×Sl):=fun ρ=>(f ρ).bind fun p=>(uY p.1).bind fun b=>.ok (b,p.2)
theorem IsL.isEmpty {K:Frag} {F:Hp} {vs:List V} {ds:List D} (h:IsL K F vs ds):vs.isEmpty=ds.isEmpty:=by cases h <;> rfl
theorem IsK.isEmpty {K:Frag} {F:Hp} {vs:List (Key×V)} {ds:List (Key×D)} (h:IsK K F vs ds):vs.isEmpty=ds.isEmpty:=by cases h <;> rfl
theorem qaM {K:Frag} {F H:Hp} {v:V} {d:D} {b:Bool} (s:Same F H) (h:TopIs K F H v d) (e:uY d=.ok b):qem K v H b:=by
 cases d with
 | non=>obtain rfl:=h.non; cases e; rfl
 | bl x=>obtain rfl:=h.bl; cases e; rfl
 | int x=>obtain rfl:=h.int; cases e; rfl
 | str x=>obtain ⟨rfl,q⟩:=h.str; cases e; exact ⟨q,rfl⟩
 | tup x=>obtain ⟨a,xs,rfl,p,t⟩:=h.tup s; cases e; exact .inr (.inl ⟨xs,p,by rw [t.isEmpty]⟩)
 | lst x=>obtain ⟨a,xs,rfl,p,t⟩:=h.lst s; cases e; exact .inl ⟨xs,p,by rw [t.isEmpty]⟩
 | dct x=>obtain ⟨a,xs,rfl,p,t⟩:=h.dct s; cases e; exact .inr (.inr ⟨xs,p,by rw [t.isEmpty]⟩)
 | raw x=>cases e
 | xcp x=>cases e
 | ins x y=>cases e
 | at_ x y=>cases e
noncomputable def qN (f:Sl->Out (D×Sl)):Sl->Out (Bool×Sl):=fun ρ=>(f ρ).bind fun p=>match p.1 with
 | .bl b=>.ok (b,p.2)
 | _=>.bad
section
variable {X:Cx} {C:Ct} {own:List Nat} {a b c e:Expr} {f fa fb fc:Sl->Out (D×Sl)} {ft fu:Sl->Out (Bool×Sl)} {m ma mb mc:Mo} {pos:Pos} {rest:List Expr}
theorem jz (hK:C.K=X.K) (h:PE X e (tE C own m f)) (he:∀ whole,isTrue e X.env whole=(do let v <-whole; standAt e.pos; holding [v] (truthy v))):PT X e (tT C own (xD f)):=by
 refine Zg (XV h he) fun σ H Q ⟨F,ρ,rp,h⟩=>⟨F,ρ,rp,PoT.bindV h fun v F1 H1 d ρ1 rp1 c1 mo1 h1=>?_⟩
 cases q:uY d with
 | ok k=>
  have h1:PoT C own σ F1 H1 ((uY d).bind fun b=>.ok (b,ρ1)) Q:=h1
  rw [q] at h1
  exact ⟨k,by rw [<-hK]; exact qaM rp1.sub mo1.top q,h1 F1 H1 rp1 .refl⟩
 | exc x=>
  have h1:PoT C own σ F1 H1 ((uY d).bind fun b=>.ok (b,ρ1)) Q:=h1
  cases d <;> cases q
 | bad=>
  have h1:PoT C own σ F1 H1 ((uY d).bind fun b=>.ok (b,ρ1)) Q:=h1
  rw [q] at h1
  exact h1.elim
theorem UL {σ:St} {H:Hp} {Q:Bool->Hp->Prop} (h:tT C own (qN f) σ H Q):tE C own .sh f σ H fun x H'=>∃ k,x=.bl k/\Q k H':=by
 obtain ⟨F,ρ,rp,h⟩:=h
 refine ⟨F,ρ,rp,PoT.bindV h fun v F1 H1 d ρ1 rp1 c1 mo1 h1=>?_⟩
 cases d with
 | bl k=>
  have mo1:Is C.K F1 v (.bl k):=mo1
  cases mo1
  exact ⟨k,rfl,h1 F1 H1 rp1 .refl⟩
 | _=>exact h1.elim
theorem qL {op:CmpOp} {g:D->D->Out D} (ho:OpD X C .sh (compareOp op) g) (ha:PE X a (tE C own ma fa)) (hb:PE X b (tE C own mb fb)) (hma:ma≠.any:=by decide)
  (hk:behindInMarks op b=false:=by first | exact GL _ | with_unfolding_all rfl):PT X (.Compare a [op] [b] pos) (tT C own (qN (d2 g fa fb))):=by
 refine Zg (qax ho ha hb hk) fun σ H Q h=>?_
 exact QP hma (UL h)
noncomputable def WB (ft:Sl->Out (Bool×Sl)):Sl->Out (Bool×Sl):=fun ρ=>(ft ρ).bind fun p=>.ok (!p.1,p.2)
theorem kx (h:PT X a (tT C own ft)):PT X (.UnaryOp .Not a pos) (tT C own (WB ft)):=by
 refine Zg (qb7 h) fun σ H Q ⟨F,ρ,rp,h⟩=>⟨F,ρ,rp,PoT.bindT h fun F1 H1 b ρ1 rp1 c1 h1=>h1 F1 H1 rp1 .refl⟩
theorem qcF {e:Expr} {t t':TT} (h:PW X e t) (i:∀ σ H Q,t' σ H Q->t σ H Q):PW X e t':=⟨fun wh pins s σ H Q I hw=>h wh pins s σ H Q I (i σ H Q hw)⟩
noncomputable def qaN (ft fu:Sl->Out (Bool×Sl)):Sl->Out (Bool×Sl):=fun ρ=>(ft ρ).bind fun p=>if p.1=true then fu p.2 else .ok (false,p.2)
noncomputable def dOr (ft fu:Sl->Out (Bool×Sl)):Sl->Out (Bool×Sl):=fun ρ=>(ft ρ).bind fun p=>if p.1=true then .ok (true,p.2) else fu p.2
theorem ky {op} (h:PT X a (tT C own ft)):PW X (.BoolOp op [a] pos) (tT C own ft):=by
 cases op
 ·exact qao h
 ·exact qb5 h
theorem UM (ha:PT X a (tT C own ft)) (hb:PW X (.BoolOp .And (b::rest) pos) (tT C own fu)):PW X (.BoolOp .And (a::b::rest) pos) (tT C own (qaN ft fu)):=by
 refine qcF (qb6 ha hb) fun σ H Q ⟨F,ρ,rp,h⟩=>⟨F,ρ,rp,PoT.bindT h fun F1 H1 k ρ1 rp1 c1 h1=>?_⟩
 cases k with
 | true=>exact ⟨F1,ρ1,rp1,h1⟩
 | false=>exact h1 F1 H1 rp1 .refl
theorem wU (ha:PT X a (tT C own ft)) (hb:PW X (.BoolOp .Or (b::rest) pos) (tT C own fu)):PW X (.BoolOp .Or (a::b::rest) pos) (tT C own (dOr ft fu)):=by
 refine qcF (qd6 ha hb) fun σ H Q ⟨F,ρ,rp,h⟩=>⟨F,ρ,rp,PoT.bindT h fun F1 H1 k ρ1 rp1 c1 h1=>?_⟩
 cases k with
 | true=>exact h1 F1 H1 rp1 .refl
 | false=>exact ⟨F1,ρ1,rp1,h1⟩
noncomputable def Kb (fa fb:Sl->Out (D×Sl)):Sl->Out (D×Sl):=fun ρ=>(fa ρ).bind fun p=>match p.1 with
 | .bl true=>fb p.2
 | .bl false=>.ok (.bl false,p.2)
 | _=>.bad
noncomputable def qdM (fa fb:Sl->Out (D×Sl)):Sl->Out (D×Sl):=fun ρ=>(fa ρ).bind fun p=>match p.1 with
 | .bl true=>.ok (.bl true,p.2)
 | .bl false=>fb p.2
 | _=>.bad
theorem Vp {op} (h:PE X a (tE C own m f)):PE X (.BoolOp op [a] pos) (tE C own m f):=qb8 h
theorem Vq (ha:PE X a (tE C own .sh fa)) (hb:PE X (.BoolOp .And (b::rest) pos) (tE C own .sh fb)):PE X (.BoolOp .And (a::b::rest) pos) (tE C own .sh (Kb fa fb)):=by
 refine jw (qb9 ha hb) fun σ H Q ⟨F,ρ,rp,h⟩=>⟨F,ρ,rp,Po.bind h fun v F1 H1 d ρ1 rp1 c1 mo1 h1=>?_⟩
 cases d with
 | bl k=>
  have mo1:Is C.K F1 v (.bl k):=mo1
  cases mo1
  refine ⟨k,rfl,?_⟩
  cases k with
  | true=>exact ⟨F1,ρ1,rp1,h1⟩
  | false=>exact h1 _ F1 H1 rp1 .refl (.bl _)
 | _=>exact h1.elim
theorem qeA (ha:PE X a (tE C own .sh fa)) (hb:PE X (.BoolOp .Or (b::rest) pos) (tE C own .sh fb)):PE X (.BoolOp .Or (a::b::rest) pos) (tE C own .sh (qdM fa fb)):=by
 refine jw (qd8 ha hb) fun σ H Q ⟨F,ρ,rp,h⟩=>⟨F,ρ,rp,Po.bind h fun v F1 H1 d ρ1 rp1 c1 mo1 h1=>?_⟩
 cases d with
 | bl k=>
  have mo1:Is C.K F1 v (.bl k):=mo1
  cases mo1
  refine ⟨k,rfl,?_⟩
  cases k with
  | true=>exact h1 _ F1 H1 rp1 .refl (.bl _)
  | false=>exact ⟨F1,ρ1,rp1,h1⟩
 | _=>exact h1.elim
noncomputable def dIf (ft:Sl->Out (Bool×Sl)) (fa fb:Sl->Out (D×Sl)):Sl->Out (D×Sl):=fun ρ=>(ft ρ).bind fun p=>if p.1=true then fa p.2 else fb p.2
theorem UN {t:Expr} (ht:PT X t (tT C own ft)) (ha:PE X a (tE C own ma fa)) (hb:PE X b (tE C own mb fb)) (h1:ma≠.any:=by decide) (h2:mb≠.any:=by decide):PE X (.IfExp t a b pos) (tE C own .sh (dIf ft fa fb)):=by
 refine jw (XM ht (uc ha h1) (uc hb h2)) fun σ H Q ⟨F,ρ,rp,h⟩=>⟨F,ρ,rp,Po.bindT h fun F1 H1 k ρ1 rp1 c1 h1=>?_⟩
 cases k with
 | true=>exact ⟨F1,ρ1,rp1,h1⟩
 | false=>exact ⟨F1,ρ1,rp1,h1⟩
noncomputable def uu (g g':D->D->Out D) (fa fb fc:Sl->Out (D×Sl)):Sl->Out (D×Sl):=fun ρ=>(fa ρ).bind fun p=>(fb p.2).bind fun q=>(g p.1 q.1).plain.bind fun z=>match z with
 | .bl true=>(fc q.2).bind fun r=>(g' q.1 r.1).plain.bind fun d=>.ok (d,r.2)
 | .bl false=>.ok (.bl false,q.2)
 | _=>.bad
theorem PoV.bind {σ:St} {F H:Hp} {o:Out D} {k:D->Out (D×Sl)} {Q R:VK} {ρ:Sl} (rp:Rep C.K own F H σ ρ) (h:Po C own m σ F H (o.plain.bind k) Q)
  (hk:∀ v F1 H1 d,Rep C.K own F1 H1 σ ρ->Chg No F H F1 H1->MoIs C.K ma H F1 H1 v d->Po C own m σ F1 H1 (k d) Q->R v H1):PoV C ma F H o R:=by
 cases o with
 | ok d=>exact fun v F1 H1 s c mo=>hk v F1 H1 d (rp.grow c s) c mo (Po.shift (show Po C own m σ F H (k d) Q from h) c.ofNo)
 | exc c=>exact h.elim
 | bad=>exact h.elim
theorem Vr {g g':D->D->Out D} {σ:St} {H:Hp} {Q:VK} (hma:ma≠.any) (hmb:mb≠.any) (h:tE C own .sh (uu g g' fa fb fc) σ H Q) :
  Uq (fun x y H Q=>∃ F dx dy,Same F H/\TopIs C.K F H x dx/\TopIs C.K F H y dy/\PoV C .sh F H (g dx dy) Q) (fun x y H Q=>∃ F dx dy,Same F H/\TopIs C.K F H x dx/\TopIs C.K F H y dy/\PoV C .sh F H (g' dx dy) Q)
   (tE C own ma fa) (tE C own mb fb) (tE C own mc fc) σ H Q:=by
 obtain ⟨F,ρ,rp,h⟩:=h
 refine ⟨F,ρ,rp,Po.bind h fun v F1 H1 d ρ1 rp1 c1 mo1 h1=>⟨F1,ρ1,rp1,Po.bind h1 fun w F2 H2 e ρ2 rp2 c2 mo2 h2=>?_⟩⟩
 have oa:∀ x,OA own σ x->H x≠none:=fun x z=>(rp.OA_there z).1
 have oa1:∀ x,OA own σ x->H1 x≠none:=fun x z=>(rp1.OA_there z).1
 refine ⟨F2,d,e,rp2.sub,(mo1.grow hma c2 oa).top,mo2.top,PoV.bind (m:=.sh) rp2 h2 fun z F3 H3 dz rp3 c3 mo3 h3=>?_⟩
 cases dz with
 | bl k=>
  have mo3:Is C.K F3 z (.bl k):=mo3
  cases mo3
  refine ⟨k,rfl,?_⟩
  cases k with
  | true=>
   refine ⟨F3,ρ2,rp3,Po.bind h3 fun w' F4 H4 r ρ4 rp4 c4 mo4 h4=>?_⟩
   exact ⟨F4,e,r,rp4.sub,((mo2.grow hmb (c3.ofNo) oa1).grow hmb c4 oa1).top,mo4.top,PoV.of rp4 h4⟩
  | false=>exact h3 _ F3 H3 rp3 .refl (.bl _)
 | _=>exact h3.elim
theorem Vs {op op':CmpOp} {g g':D->D->Out D} (ho:OpD X C .sh (compareOp op) g) (ho':OpD X C .sh (compareOp op') g') (ha:PE X a (tE C own ma fa)) (hb:PE X b (tE C own mb fb)) (hc:PE X c (tE C own mc fc)) (hma:ma≠.any:=by decide) (hmb:mb≠.any:=by decide)
  (hm:lastMarks [op,op'] [b,c]=false:=by with_unfolding_all rfl):PE X (.Compare a [op,op'] [b,c] pos) (tE C own .sh (uu g g' fa fb fc)):=jw (XT ho ho' ha hb hc hm) fun _ _ _ h=>Vr hma hmb h
theorem QR {op op':CmpOp} {g g':D->D->Out D} (ho:OpD X C .sh (compareOp op) g) (ho':OpD X C .sh (compareOp op') g') (ha:PE X a (tE C own ma fa)) (hb:PE X b (tE C own mb fb)) (hc:PE X c (tE C own mc fc)) (hma:ma≠.any:=by decide) (hmb:mb≠.any:=by decide)
  (hm:lastMarks [op,op'] [b,c]=false:=by with_unfolding_all rfl):PT X (.Compare a [op,op'] [b,c] pos) (tT C own (qN (uu g g' fa fb fc))):=Zg (XU ho ho' ha hb hc hm) fun _ _ _ h=>Vr hma hmb (UL h)
theorem UO:OpR X (compareOp .LtE) (fun x y H Q=>∃ i j,x=.str i/\y=.str j/\Q (.bl (!ud j i)) H):=by
 intro pins s σ H x y v u Q I rx ry h
 obtain ⟨i,j,rfl,rfl,q⟩:=h
 obtain ⟨t,rfl⟩:=rx
 obtain ⟨t',rfl⟩:=ry
 exact PySem.P.le_str (Uo I q (by simp [ud]))
noncomputable def leD:D->D->Out D
 | .int i,.int j=>.ok (.bl (decide (i<=j)))
 | .str x,.str y=>.ok (.bl (!ud y x))
 | _,_=>.bad
theorem QS:OpD X C .sh (compareOp .LtE) leD:=by
 intro pins s σ H x y v u Q I rx ry h
 obtain ⟨F,dx,dy,sb,tx,ty,po⟩:=h
 cases dx <;> try exact po.elim
 ·cases dy <;> try exact po.elim
  obtain rfl:=tx.int
  obtain rfl:=ty.int
  exact qej pins s σ H _ _ v u Q I rx ry ⟨_,_,rfl,rfl,po _ F H sb .refl (.bl _)⟩
 ·cases dy <;> try exact po.elim
  obtain ⟨rfl,_⟩:=tx.str
  obtain ⟨rfl,_⟩:=ty.str
  exact UO pins s σ H _ _ v u Q I rx ry ⟨_,_,rfl,rfl,po _ F H sb .refl (.bl _)⟩
noncomputable def gtD:D->D->Out D:=wT fun i j=>.ok (.bl (decide (j < i)))
theorem qeB:OpD X C .sh (compareOp .Gt) gtD:=Ka qek fun _ _ _=>.bl _
noncomputable def geD:D->D->Out D:=wT fun i j=>.ok (.bl (decide (j<=i)))
theorem qcG:OpD X C .sh (compareOp .GtE) geD:=Ka qel fun _ _ _=>.bl _
noncomputable def Zl:D->D->Out D
 | .non,.non=>.ok (.bl false)
 | .raw _,.non=>.bad
 | _,.non=>.ok (.bl true)
 | _,_=>.bad
theorem TopIs.notN {K:Frag} {F H:Hp} {v:V} {d:D} (h:TopIs K F H v d) (h1:d≠.non) (h2:∀ u,d≠.raw u):v≠.non:=by
 rintro rfl
 rcases h with h | ⟨a,e,_⟩
 ·cases h
  ·exact h1 rfl
  ·exact h2 _ rfl
 ·cases e
theorem qaO:OpD X C .sh (compareOp .IsNot) Zl:=by
 intro pins s σ H x y v u Q I rx ry h
 obtain ⟨F,dx,dy,sb,tx,ty,po⟩:=h
 have hy:dy=.non:=by cases dy <;> first | rfl | (cases dx <;> exact po.elim)
 subst hy
 obtain rfl:=ty.non
 refine qav pins s σ H x .non v u Q I rx ry ⟨rfl,?_⟩
 cases dx with
 | non=>obtain rfl:=tx.non; exact po _ F H sb .refl (.bl _)
 | raw _=>exact po.elim
 | _=>rw [decide_eq_false (tx.notN (by intro z; cases z) (by intro _ z; cases z))]; exact po _ F H sb .refl (.bl _)
end
inductive Fl where
 | nx | rt (d:D) | bk | ct
structure Nx (C:Ct) (own own':List Nat) (σ:St) (F H:Hp) (ρ':Sl) (σ':St) (F' H':Hp):Prop where
 rep:Rep C.K own' F' H' σ' ρ'
 chg:Chg (OA own σ) F H F' H'
 oa:∀ b,OA own' σ' b->OA own σ b\/H b=none
 io:∀ i∈C.io,σ'[i]?=σ[i]?
def PoS (C:Ct) (own own':List Nat) (σ:St) (F H:Hp) (r:Out (Fl×Sl)) (D:Ends):Prop:=match r with
 | .ok (.nx,ρ')=>∀ σ' F' H',Nx C own own' σ F H ρ' σ' F' H'->D.nx σ' H'
 | .ok (.rt d,ρ')=>∀ v σ' F' H',Same F' H'->XG C.K C.io F' H' σ' ρ'->Chg (OA own σ) F H F' H'->(∀ i∈C.io,σ'[i]?=σ[i]?)->MoIs C.K C.mr H F' H' v d->D.rt v H'
 | .ok (.bk,ρ')=>∀ σ' F' H',Nx C own C.ol σ F H ρ' σ' F' H'->D.bk σ' H'
 | .ok (.ct,ρ')=>∀ σ' F' H',Nx C own C.ol σ F H ρ' σ' F' H'->D.ct σ' H'
 | .exc c ρ'=>∀ F' H',Same F' H'->XG C.K C.ox F' H' σ ρ'->Chg (OA own σ) F H F' H'->C.E (C.cv c) none H'
 | .bad=>False
def tSt (C:Ct) (own own':List Nat) (f:Sl->Out (Fl×Sl)):TS:=fun D σ H=>∃ F ρ,Rep C.K own F H σ ρ/\PoS C own own' σ F H (f ρ) D
theorem Nx.then {C:Ct} {o1 o2 o3:List Nat} {σ σ1 σ2:St} {F H F1 H1 F2 H2:Hp} {ρ1 ρ2:Sl} (a:Nx C o1 o2 σ F H ρ1 σ1 F1 H1) (b:Nx C o2 o3 σ1 F1 H1 ρ2 σ2 F2 H2):Nx C o1 o3 σ F H ρ2 σ2 F2 H2 where
 rep:=b.rep
 chg:=a.chg.trans b.chg a.oa
 oa:=fun x h=>by
  rcases b.oa x h with z | z
  ·exact a.oa x z
  ·refine .inr ?_
   cases q:H x with
   | none=>rfl
   | some o=>exact absurd z (a.chg.stay x (by rw [q]; simp))
 io:=fun i hi=>(b.io i hi).trans (a.io i hi)
theorem PoS.shift {C:Ct} {o1 o2 o3:List Nat} {σ σ1:St} {F H F1 H1:Hp} {ρ1:Sl} {r:Out (Fl×Sl)} {D:Ends} (h:PoS C o1 o3 σ F H r D) (a:Nx C o1 o2 σ F H ρ1 σ1 F1 H1):PoS C o2 o3 σ1 F1 H1 r D:=by
 cases r with
 | ok p=>
  obtain ⟨fl,ρ'⟩:=p
  cases fl with
  | nx=>exact fun σ' F' H' n=>h σ' F' H' (a.then n)
  | rt d=>exact fun v σ' F' H' s io c e mo=>h v σ' F' H' s io (a.chg.trans c a.oa) (fun i hi=>(e i hi).trans (a.io i hi)) (MoIs.back (Ha:=H1) a.chg mo)
  | bk=>exact fun σ' F' H' n=>h σ' F' H' (a.then n)
  | ct=>exact fun σ' F' H' n=>h σ' F' H' (a.then n)
 | exc c=>exact fun F' H' s io c'=>h F' H' s (fun i hi=>by
   obtain ⟨d,b,e1,e2,e3⟩:=io i hi
   exact ⟨d,b,e1,by rw [<-a.io i (C.oxs i hi)]; exact e2,e3⟩) (a.chg.trans c' a.oa)
 | bad=>exact h.elim
theorem Nx.ofE {C:Ct} {own:List Nat} {σ:St} {F H F1 H1:Hp} {ρ1:Sl} (r:Rep C.K own F1 H1 σ ρ1) (c:Chg (OA own σ) F H F1 H1):Nx C own own σ F H ρ1 σ F1 H1:=⟨r,c,fun _ h=>.inl h,fun _ _=>rfl⟩
theorem PoS.bindE {C:Ct} {own own':List Nat} {m:Mo} {σ:St} {F H:Hp} {o:Out (D×Sl)} {k:D×Sl->Out (Fl×Sl)} {D:Ends} {R:VK} (hp:PoS C own own' σ F H (o.bind k) D)
  (h:∀ v F1 H1 d ρ1,Rep C.K own F1 H1 σ ρ1->Chg (OA own σ) F H F1 H1->MoIs C.K m H F1 H1 v d->PoS C own own' σ F1 H1 (k (d,ρ1)) D->R v H1):Po C own m σ F H o R:=by
 cases o with
 | ok p=>
  obtain ⟨d,ρ1⟩:=p
  exact fun v F1 H1 rp c mo=>h v F1 H1 d ρ1 rp c mo (PoS.shift (show PoS C own own' σ F H (k (d,ρ1)) D from hp) (.ofE rp c))
 | exc x=>exact hp
 | bad=>exact hp.elim
theorem PoS.bindT {C:Ct} {own own':List Nat} {σ:St} {F H:Hp} {o:Out (Bool×Sl)} {k:Bool×Sl->Out (Fl×Sl)} {D:Ends} {R:Bool->Hp->Prop} (hp:PoS C own own' σ F H (o.bind k) D)
  (h:∀ F1 H1 b ρ1,Rep C.K own F1 H1 σ ρ1->Chg (OA own σ) F H F1 H1->PoS C own own' σ F1 H1 (k (b,ρ1)) D->R b H1):PoT C own σ F H o R:=by
 cases o with
 | ok p=>
  obtain ⟨d,ρ1⟩:=p
  exact fun F1 H1 rp c=>h F1 H1 d ρ1 rp c (PoS.shift (show PoS C own own' σ F H (k (d,ρ1)) D from hp) (.ofE rp c))
 | exc x=>exact hp
 | bad=>exact hp.elim
section
variable {X:Cx} {C:Ct} {own own' o1 o2 o3:List Nat} {e:Expr} {st:Stmt} {sts rest:List Stmt} {f g:Sl->Out (Fl×Sl)} {fe:Sl->Out (D×Sl)} {ft:Sl->Out (Bool×Sl)} {m:Mo} {pos:Pos}
theorem zG {t t':TS} (h:PS X st t) (i:∀ D σ H,t' D σ H->t D σ H):PS X st t':=⟨fun pins s σ H D I hw=>h pins s σ H D I (i D σ H hw)⟩
theorem UP {t t':TS} (h:PSs X sts t) (i:∀ D σ H,t' D σ H->t D σ H):PSs X sts t':=⟨fun pins s σ H D I hw=>h pins s σ H D I (i D σ H hw)⟩
noncomputable def ji:Sl->Out (Fl×Sl):=fun ρ=>.ok (.nx,ρ)
noncomputable def qR (f g:Sl->Out (Fl×Sl)):Sl->Out (Fl×Sl):=fun ρ=>(f ρ).bind fun p=>match p.1 with
 | .nx=>g p.2
 | fl=>.ok (fl,p.2)
theorem Nx.refl {σ:St} {F H:Hp} {ρ:Sl} (r:Rep C.K own F H σ ρ):Nx C own own σ F H ρ σ F H:=.ofE r .refl
theorem qP:PSs X [] (tSt C own own ji):=UP qap fun D σ H ⟨F,ρ,rp,h⟩=>h σ F H (.refl rp)
theorem qcH {D:Ends} {σ:St} {H:Hp} (h:tSt C o1 o3 (qR f g) D σ H):tSt C o1 o2 f { D with nx:=tSt C o2 o3 g D } σ H:=by
 obtain ⟨F,ρ,rp,h⟩:=h
 refine ⟨F,ρ,rp,?_⟩
 unfold qR at h
 cases q:f ρ with
 | ok p=>
  rw [q] at h
  obtain ⟨fl,ρ1⟩:=p
  cases fl with
  | nx=>exact fun σ' F' H' n=>⟨F',ρ1,n.rep,PoS.shift (show PoS C o1 o3 σ F H (g ρ1) D from h) n⟩
  | rt d=>exact h
  | bk=>exact h
  | ct=>exact h
 | exc c=>rw [q] at h; exact h
 | bad=>rw [q] at h; exact h.elim
theorem qh (h1:PS X st (tSt C o1 o2 f)) (h2:PSs X rest (tSt C o2 o3 g)):PSs X (st::rest) (tSt C o1 o3 (qR f g)):=UP (XN h1 h2) fun D σ H h=>qcH h
theorem qm (h1:PS X st (tSt C o1 o2 f)):PSs X [st] (tSt C o1 o2 f):=qaq h1
theorem Rep.weak {K:Frag} {F H:Hp} {σ:St} {ρ:Sl}:∀ (drop:List Nat) {own own':List Nat},(∀ i,i∈own'↔i∈own/\i∉drop)->Rep K own F H σ ρ->∃ F',Rep K own' F' H σ ρ/\Chg (OA own σ) F H F' H
 | [],own,own',hs,rp=>⟨F,⟨rp.sub,rp.len,fun i d hi=>rp.val i d fun z=>hi ((hs i).mpr ⟨z,by simp⟩),fun i d hi=>rp.ow i d ((hs i).mp hi).1,fun i hi=>rp.opn i ((hs i).mp hi).1,fun i j a hi hj=>rp.dis i j a ((hs i).mp hi).1 ((hs j).mp hj).1⟩,.refl⟩
 | k::r,own,own',hs,rp=>by
  obtain ⟨F1,rp1,c1⟩:=Rep.weak r (own:=own) (own':=own.filter fun i=>decide (i∉r)) (fun i=>by simp) rp
  by_cases hk:k∈own/\k∉r
  ·obtain ⟨d,hd⟩:=rp1.opn k (by simp [hk.1,hk.2])
   obtain ⟨a,h1,h2,h3⟩:=rp1.ow k d (by simp [hk.1,hk.2]) hd
   obtain ⟨u,hu⟩:∃ u,H a=some u:=by
    cases q:H a with
    | none=>exact absurd q h3.there
    | some u=>exact ⟨u,rfl⟩
   have gr:Same F1 (upd F1 a u):=fun b w e=>by rw [qA (qE e h2)]; exact e
   refine ⟨upd F1 a u,⟨fun b w e=>?_,rp1.len,fun i d' hi e=>?_,fun i d' hi e=>?_,fun i hi=>?_,fun i j b hi hj=>?_⟩,?_⟩
   ·by_cases q:b=a
    ·subst q; rw [qo] at e; cases e; exact hu
    ·rw [qA q] at e; exact rp1.sub b w e
   ·by_cases q:i=k
    ·subst q
     rw [hd] at e; cases e
     refine ⟨_,h1,?_⟩
     cases d with
     | lst ds=>obtain ⟨xs,e,t⟩:=h3; rw [hu] at e; cases e; exact .lst (.inl (.inl qo)) (t.mono gr)
     | dct ds=>obtain ⟨xs,e,t⟩:=h3; rw [hu] at e; cases e; exact .dct qo (t.mono gr)
     | ins C fs=>obtain ⟨dx,xs,e,t⟩:=h3; rw [hu] at e; cases e; exact .ins qo (t.mono gr)
     | at_ b ds=>obtain ⟨eb,xs,e,t⟩:=h3; rw [hu] at e; cases e; subst eb; exact .at_ (.inl (.inl qo)) (t.mono gr)
     | _=>exact h3.elim
    ·obtain ⟨v,q1,q2⟩:=rp1.val i d' (fun z=>by simp at z; exact hi ((hs i).mpr ⟨z.1,by simp [q,z.2]⟩)) e
     exact ⟨v,q1,q2.mono gr⟩
   ·have hi':=(hs i).mp hi
    have hik:i≠k:=fun z=>hi'.2 (by simp [z])
    have hir:i∉r:=fun z=>hi'.2 (by simp [z])
    obtain ⟨b,q1,q2,q3⟩:=rp1.ow i d' (by simp [hi'.1,hir]) e
    refine ⟨b,q1,?_,q3.grow gr fun _ z=>z⟩
    have nb:b≠a:=fun z=>by subst z; exact hik (rp1.dis i k b (by simp [hi'.1,hir]) (by simp [hk.1,hk.2]) q1 h1)
    rw [qA nb]; exact q2
   ·have hi':=(hs i).mp hi
    exact rp1.opn i (by simp [hi'.1]; exact fun z=>hi'.2 (by simp [z]))
   ·have hi':=(hs i).mp hi
    have hj':=(hs j).mp hj
    exact rp1.dis i j b (by simp [hi'.1]; exact fun z=>hi'.2 (by simp [z])) (by simp [hj'.1]; exact fun z=>hj'.2 (by simp [z]))
   ·refine ⟨c1.keep,c1.stay,c1.grow.trans gr,fun b hb=>?_⟩
    by_cases q:b=a
    ·exact .inr (.inr ⟨k,hk.1,by rw [q]; exact h1⟩)
    ·rw [qA q] at hb; exact c1.new b hb
  ·refine ⟨F1,⟨rp1.sub,rp1.len,fun i d hi=>rp1.val i d fun z=>?_,fun i d hi=>rp1.ow i d ?_,fun i hi=>rp1.opn i ?_,fun i j a hi hj=>rp1.dis i j a ?_ ?_⟩,c1⟩
   ·simp at z
    refine hi ((hs i).mpr ⟨z.1,?_⟩)
    simp only [List.mem_cons,not_or]
    exact ⟨fun q=>hk (by subst q; exact z),z.2⟩
   all_goals
    first
     | (have q:=(hs _).mp hi; simp only [List.mem_filter,decide_eq_true_eq]; exact ⟨q.1,fun z=>q.2 (by simp [z])⟩)
     | (have q:=(hs _).mp hj; simp only [List.mem_filter,decide_eq_true_eq]; exact ⟨q.1,fun z=>q.2 (by simp [z])⟩)
theorem OA.sub {σ:St} (h:∀ i∈own',i∈own) {b:Addr} (q:OA own' σ b):OA own σ b:=let ⟨i,hi,e⟩:=q; ⟨i,h i hi,e⟩
theorem Nx.drop {σ:St} {F H:Hp} {ρ:Sl} (drop:List Nat) (hs:∀ i,i∈own'↔i∈own/\i∉drop) (rp:Rep C.K own F H σ ρ):∃ F',Nx C own own' σ F H ρ σ F' H:=by
 obtain ⟨F',rp',c⟩:=Rep.weak drop hs rp
 exact ⟨F',rp',c,fun b q=>.inl (OA.sub (fun i hi=>((hs i).mp hi).1) q),fun _ _=>rfl⟩
noncomputable def vY (own drop:List Nat):List Nat:=own.filter fun i=>decide (i∉drop)
theorem qT {own drop:List Nat} (i:Nat):i∈vY own drop↔i∈own/\i∉drop:=by simp [vY]
theorem kK (drop:List Nat) (h:PSs X sts (tSt C (vY own drop) o2 f)):PSs X sts (tSt C own o2 f):=UP h fun D σ H ⟨F,ρ,rp,h⟩=>by
 obtain ⟨F',n⟩:=Nx.drop (C:=C) drop (fun i=>qT (own:=own) i) rp
 exact ⟨F',ρ,n.rep,h.shift n⟩
noncomputable def sIf (ft:Sl->Out (Bool×Sl)) (f g:Sl->Out (Fl×Sl)):Sl->Out (Fl×Sl):=fun ρ=>(ft ρ).bind fun p=>if p.1=true then f p.2 else g p.2
theorem jk {c:Expr} {a b:List Stmt} (hc:PT X c (tT C own ft)) (ha:PSs X a (tSt C own own' f)) (hb:PSs X b (tSt C own own' g)):PS X (.If c a b pos) (tSt C own own' (sIf ft f g)):=by
 refine zG (qeb hc ha hb) fun D σ H ⟨F,ρ,rp,h⟩=>⟨F,ρ,rp,PoS.bindT h fun F1 H1 k ρ1 rp1 c1 h1=>?_⟩
 cases k with
 | true=>exact ⟨F1,ρ1,rp1,h1⟩
 | false=>exact ⟨F1,ρ1,rp1,h1⟩
noncomputable def kg (fe:Sl->Out (D×Sl)):Sl->Out (Fl×Sl):=fun ρ=>(fe ρ).bind fun p=>.ok (.nx,p.2)
theorem jl (he:PE X e (tE C own m fe)) (hs:swapsWith e none pos.line X.env=pure false:=by rfl):PS X (.Expr e pos) (tSt C own own (kg fe)):=by
 refine zG (qar he hs) fun D σ H ⟨F,ρ,rp,h⟩=>⟨F,ρ,rp,PoS.bindE h fun v F1 H1 d ρ1 rp1 c1 mo1 h1=>h1 σ F1 H1 (.refl rp1)⟩
noncomputable def jE (fe:Sl->Out (D×Sl)):Sl->Out (Fl×Sl):=fun ρ=>(fe ρ).bind fun p=>.ok (.rt p.1,p.2)
theorem qaP (he:PE X e (tE C own C.mr fe)) (hio:∀ i∈C.io,i∈own:=by exact xz rfl):PS X (.Return (some e) pos) (tSt C own own' (jE fe)):=by
 refine zG (qca he) fun D σ H ⟨F,ρ,rp,h⟩=>⟨F,ρ,rp,?_⟩
 unfold jE at h
 cases q:fe ρ with
 | ok p=>
  rw [q] at h
  obtain ⟨d,ρ1⟩:=p
  exact fun v F1 H1 rp1 c1 mo1=>h v σ F1 H1 rp1.sub (rp1.ioIs hio) c1 (fun _ _=>rfl) mo1
 | exc c=>rw [q] at h; exact h
 | bad=>rw [q] at h; exact h.elim
theorem qp (he:PE X e (tE C own m fe)) (hm:m≠.any:=by decide) (hr:C.mr=.sh:=by rfl) (hio:∀ i∈C.io,i∈own:=by exact xz rfl):PS X (.Return (some e) pos) (tSt C own own' (jE fe)):=qaP (by rw [hr]; exact uc he hm) hio
theorem Rep.put {K:Frag} {F H:Hp} {σ:St} {ρ:Sl} {i:Nat} {v:V} {d:D} (rp:Rep K own F H σ ρ) (hi:i < ρ.length) (is:Is K F v d):Rep K (vY own [i]) F H (σ.set i (some v)) (ρ.set i (some d)) where
 sub:=rp.sub
 len:=by simp [rp.len]
 val:=fun j d' hj e=>by
  by_cases q:j=i
  ·subst q
   rw [List.getElem?_set_self hi] at e
   cases e
   exact ⟨v,List.getElem?_set_self (by rw [rp.len]; exact hi),is⟩
  ·rw [List.getElem?_set_ne (Ne.symm q)] at e
   obtain ⟨w,h1,h2⟩:=rp.val j d' (fun z=>hj ((qT j).mpr ⟨z,by simp [q]⟩)) e
   exact ⟨w,by rw [List.getElem?_set_ne (Ne.symm q)]; exact h1,h2⟩
 ow:=fun j d' hj e=>by
  have hj':=(qT j).mp hj
  have q:j≠i:=fun z=>hj'.2 (by simp [z])
  rw [List.getElem?_set_ne (Ne.symm q)] at e
  obtain ⟨a,h1,h2⟩:=rp.ow j d' hj'.1 e
  exact ⟨a,by rw [List.getElem?_set_ne (Ne.symm q)]; exact h1,h2⟩
 opn:=fun j hj=>by
  have hj':=(qT j).mp hj
  have q:j≠i:=fun z=>hj'.2 (by simp [z])
  obtain ⟨d',e⟩:=rp.opn j hj'.1
  exact ⟨d',by rw [List.getElem?_set_ne (Ne.symm q)]; exact e⟩
 dis:=fun j k a hj hk e1 e2=>by
  have hj':=(qT j).mp hj
  have hk':=(qT k).mp hk
  rw [List.getElem?_set_ne (fun z=>hj'.2 (by simp [z]))] at e1
  rw [List.getElem?_set_ne (fun z=>hk'.2 (by simp [z]))] at e2
  exact rp.dis j k a hj'.1 hk'.1 e1 e2
theorem OA.put {σ:St} {i:Nat} {v:V} {b:Addr} (h:OA (vY own [i]) (σ.set i (some v)) b):OA own σ b:=by
 obtain ⟨j,hj,e⟩:=h
 have hj':=(qT j).mp hj
 rw [List.getElem?_set_ne (fun z=>hj'.2 (by simp [z]))] at e
 exact ⟨j,hj'.1,e⟩
noncomputable def jN (i:Nat) (fe:Sl->Out (D×Sl)):Sl->Out (Fl×Sl):=fun ρ=>(fe ρ).bind fun p=>if i < p.2.length then .ok (.nx,p.2.set i (some p.1)) else .bad
theorem qM {i:Nat} {x:Str} {pos':Pos} (hN:X.N.Nodup) (hi:X.N[i]?=some x) (hx:Loc X.env.scope x) (he:PE X e (tE C own m fe)) (hm:m≠.any:=by decide) (hio:i∉C.io:=by exact Vj rfl) (hs:swapsWith e (some (.Name x pos')) pos.line X.env=pure false:=by rfl)
  (hf:X.fn x=true\/X.env.scope.names.lookup x=some .local:=by first | exact .inl rfl | exact .inr rfl):PS X (.Assign [.Name x pos'] e pos) (tSt C own (vY own [i]) (jN i fe)):=by
 refine zG (GJ hN hi hx (uc he hm) hs hf) fun D σ H ⟨F,ρ,rp,h⟩=>⟨F,ρ,rp,PoS.bindE h fun v F1 H1 d ρ1 rp1 c1 mo1 h1=>?_⟩
 by_cases q:i < ρ1.length
 ·have h1:PoS C own (vY own [i]) σ F1 H1 (if i < ρ1.length then .ok (.nx,ρ1.set i (some d)) else .bad) D:=h1
  rw [if_pos q] at h1
  exact h1 _ F1 H1 ⟨rp1.put q mo1,.refl,fun b z=>.inl (OA.put z),fun j hj=>List.getElem?_set_ne fun z=>hio (by rw [z]; exact hj)⟩
 ·have h1:PoS C own (vY own [i]) σ F1 H1 (if i < ρ1.length then .ok (.nx,ρ1.set i (some d)) else .bad) D:=h1
  rw [if_neg q] at h1
  exact h1.elim
theorem Rep.putO {K:Frag} {F H:Hp} {σ:St} {ρ:Sl} {i:Nat} {a:Addr} {d:D} (rp:Rep K own F H σ ρ) (hi:i < ρ.length) (hF:F a=none) (nA:¬OA own σ a) (o:OwnIs K F H a d):Rep K (i::vY own [i]) F H (σ.set i (some (.ref a))) (ρ.set i (some d)) where
 sub:=rp.sub
 len:=by simp [rp.len]
 val:=fun j d' hj e=>by
  have q:j≠i:=fun z=>hj (by simp [z])
  rw [List.getElem?_set_ne (Ne.symm q)] at e
  obtain ⟨w,h1,h2⟩:=rp.val j d' (fun z=>hj (List.mem_cons_of_mem _ ((qT j).mpr ⟨z,by simp [q]⟩))) e
  exact ⟨w,by rw [List.getElem?_set_ne (Ne.symm q)]; exact h1,h2⟩
 ow:=fun j d' hj e=>by
  by_cases q:j=i
  ·subst q
   rw [List.getElem?_set_self hi] at e
   cases e
   exact ⟨a,List.getElem?_set_self (by rw [rp.len]; exact hi),hF,o⟩
  ·have hj':=(qT j).mp ((List.mem_cons.mp hj).resolve_left q)
   rw [List.getElem?_set_ne (Ne.symm q)] at e
   obtain ⟨b,h1,h2⟩:=rp.ow j d' hj'.1 e
   exact ⟨b,by rw [List.getElem?_set_ne (Ne.symm q)]; exact h1,h2⟩
 opn:=fun j hj=>by
  by_cases q:j=i
  ·subst q; exact ⟨d,List.getElem?_set_self hi⟩
  ·have hj':=(qT j).mp ((List.mem_cons.mp hj).resolve_left q)
   obtain ⟨d',e⟩:=rp.opn j hj'.1
   exact ⟨d',by rw [List.getElem?_set_ne (Ne.symm q)]; exact e⟩
 dis:=fun j k b hj hk e1 e2=>by
  have iσ:i < σ.length:=by rw [rp.len]; exact hi
  by_cases qj:j=i
  ·by_cases qk:k=i
   ·rw [qj,qk]
   ·subst qj
    have hk':=(qT k).mp ((List.mem_cons.mp hk).resolve_left qk)
    rw [List.getElem?_set_self iσ] at e1
    cases e1
    rw [List.getElem?_set_ne (Ne.symm qk)] at e2
    exact absurd ⟨k,hk'.1,e2⟩ nA
  ·have hj':=(qT j).mp ((List.mem_cons.mp hj).resolve_left qj)
   by_cases qk:k=i
   ·subst qk
    rw [List.getElem?_set_self iσ] at e2
    cases e2
    rw [List.getElem?_set_ne (Ne.symm qj)] at e1
    exact absurd ⟨j,hj'.1,e1⟩ nA
   ·have hk':=(qT k).mp ((List.mem_cons.mp hk).resolve_left qk)
    rw [List.getElem?_set_ne (Ne.symm qj)] at e1
    rw [List.getElem?_set_ne (Ne.symm qk)] at e2
    exact rp.dis j k b hj'.1 hk'.1 e1 e2
theorem jF {i:Nat} {x:Str} {pos':Pos} (hN:X.N.Nodup) (hi:X.N[i]?=some x) (hx:Loc X.env.scope x) (he:PE X e (tE C own .fr fe)) (hio:i∉C.io:=by exact Vj rfl) (hs:swapsWith e (some (.Name x pos')) pos.line X.env=pure false:=by rfl)
  (hf:X.fn x=true\/X.env.scope.names.lookup x=some .local:=by first | exact .inl rfl | exact .inr rfl):PS X (.Assign [.Name x pos'] e pos) (tSt C own (i::vY own [i]) (jN i fe)):=by
 refine zG (GJ hN hi hx he hs hf) fun D σ H ⟨F,ρ,rp,h⟩=>⟨F,ρ,rp,?_⟩
 unfold jN at h
 cases q:fe ρ with
 | ok p=>
  rw [q] at h
  obtain ⟨d,ρ1⟩:=p
  intro v F1 H1 rp1 c1 mo1
  obtain ⟨a,rfl,h0,hF,o⟩:=mo1
  by_cases z:i < ρ1.length
  ·have h1:PoS C own (i::vY own [i]) σ F H (if i < ρ1.length then .ok (.nx,ρ1.set i (some d)) else .bad) D:=h
   rw [if_pos z] at h1
   refine h1 _ F1 H1 ⟨rp1.putO z hF (fun y=>(rp.OA_there y).1 h0) o,c1,fun b y=>?_,fun j hj=>List.getElem?_set_ne fun y=>hio (by rw [y]; exact hj)⟩
   obtain ⟨j,hj,e⟩:=y
   by_cases qj:j=i
   ·subst qj
    rw [List.getElem?_set_self (by rw [rp1.len]; exact z)] at e
    cases e
    exact .inr h0
   ·have hj':=(qT j).mp ((List.mem_cons.mp hj).resolve_left qj)
    rw [List.getElem?_set_ne (Ne.symm qj)] at e
    exact .inl ⟨j,hj'.1,e⟩
  ·have h1:PoS C own (i::vY own [i]) σ F H (if i < ρ1.length then .ok (.nx,ρ1.set i (some d)) else .bad) D:=h
   rw [if_neg z] at h1
   exact h1.elim
 | exc c=>rw [q] at h; exact h
 | bad=>rw [q] at h; exact h.elim
end
inductive AK where
 | vl | sl (i:Nat) | fr
 deriving DecidableEq
def ArgV (K:Frag) (H0 F H:Hp) (σ:St):List AK->List V->List D->Prop
 | [],[],[]=>True
 | .vl::as,v::vs,d::ds=>Is K F v d/\ArgV K H0 F H σ as vs ds
 | .sl i::as,v::vs,d::ds=>σ[i]?=some (some v)/\d=.non/\ArgV K H0 F H σ as vs ds
 | .fr::as,v::vs,d::ds=>MoIs K .fr H0 F H v d/\ArgV K H0 F H σ as vs ds
 | _,_,_=>False
theorem ArgV.grow {K:Frag} {A:Addr->Prop} {H0 F H F' H':Hp} {σ:St} (c:Chg A F H F' H') (hA:∀ x,A x->H0 x≠none):∀ {as:List AK} {vs:List V} {ds:List D},ArgV K H0 F H σ as vs ds->ArgV K H0 F' H' σ as vs ds
 | [],[],[],h=>trivial
 | .vl::as,v::vs,d::ds,h=>⟨h.1.mono c.grow,ArgV.grow c hA h.2⟩
 | .sl i::as,v::vs,d::ds,h=>⟨h.1,h.2.1,ArgV.grow c hA h.2.2⟩
 | .fr::as,v::vs,d::ds,h=>⟨h.1.grow (by decide) c hA,ArgV.grow c hA h.2⟩
 | [],_::_,_,h=>h.elim
 | [],[],_::_,h=>h.elim
 | .vl::_,[],_,h=>h.elim
 | .vl::_,_::_,[],h=>h.elim
 | .sl _::_,[],_,h=>h.elim
 | .sl _::_,_::_,[],h=>h.elim
 | .fr::_,[],_,h=>h.elim
 | .fr::_,_::_,[],h=>h.elim
theorem ArgV.back {K:Frag} {A:Addr->Prop} {H0 H1 F0 F1 F H:Hp} {σ:St} (c:Chg A F0 H0 F1 H1):∀ {as:List AK} {vs:List V} {ds:List D},ArgV K H1 F H σ as vs ds->ArgV K H0 F H σ as vs ds
 | [],[],[],h=>trivial
 | .vl::as,v::vs,d::ds,h=>⟨h.1,ArgV.back c h.2⟩
 | .sl i::as,v::vs,d::ds,h=>⟨h.1,h.2.1,ArgV.back c h.2.2⟩
 | .fr::as,v::vs,d::ds,h=>⟨MoIs.back (Ha:=H1) c h.1,ArgV.back c h.2⟩
 | [],_::_,_,h=>h.elim
 | [],[],_::_,h=>h.elim
 | .vl::_,[],_,h=>h.elim
 | .vl::_,_::_,[],h=>h.elim
 | .sl _::_,[],_,h=>h.elim
 | .sl _::_,_::_,[],h=>h.elim
 | .fr::_,[],_,h=>h.elim
 | .fr::_,_::_,[],h=>h.elim
def PoA (C:Ct) (own:List Nat) (as:List AK) (σ:St) (F H:Hp) (r:Out (List D×Sl)) (Q:List V->Hp->Prop):Prop:=match r with
 | .ok (ds,ρ')=>∀ vs F' H',Rep C.K own F' H' σ ρ'->Chg (OA own σ) F H F' H'->ArgV C.K H F' H' σ as vs ds->Q vs H'
 | .exc c ρ'=>∀ F' H',Same F' H'->XG C.K C.ox F' H' σ ρ'->Chg (OA own σ) F H F' H'->C.E (C.cv c) none H'
 | .bad=>False
def tAr (C:Ct) (own:List Nat) (as:List AK) (f:Sl->Out (List D×Sl)):TA:=fun σ H Q=>∃ F ρ,Rep C.K own F H σ ρ/\PoA C own as σ F H (f ρ) Q
theorem PoA.bindV {C:Ct} {own:List Nat} {as:List AK} {ma:Mo} {σ:St} {F H:Hp} {o:Out (D×Sl)} {k:D×Sl->Out (List D×Sl)} {Q:List V->Hp->Prop} {R:VK} (hp:PoA C own as σ F H (o.bind k) Q)
  (h:∀ v F1 H1 d ρ1,Rep C.K own F1 H1 σ ρ1->Chg (OA own σ) F H F1 H1->MoIs C.K ma H F1 H1 v d->PoA C own as σ F H (k (d,ρ1)) Q->R v H1):Po C own ma σ F H o R:=by
 cases o with
 | ok p=>
  obtain ⟨d,ρ1⟩:=p
  exact fun v F1 H1 rp c mo=>h v F1 H1 d ρ1 rp c mo hp
 | exc x=>exact hp
 | bad=>exact hp.elim
theorem Po.bindA {C:Ct} {own:List Nat} {as:List AK} {m:Mo} {σ:St} {F H:Hp} {o:Out (List D×Sl)} {k:List D×Sl->Out (D×Sl)} {Q:VK} {R:List V->Hp->Prop} (hp:Po C own m σ F H (o.bind k) Q)
  (h:∀ vs F1 H1 ds ρ1,Rep C.K own F1 H1 σ ρ1->Chg (OA own σ) F H F1 H1->ArgV C.K H F1 H1 σ as vs ds->Po C own m σ F1 H1 (k (ds,ρ1)) Q->R vs H1):PoA C own as σ F H o R:=by
 cases o with
 | ok p=>
  obtain ⟨d,ρ1⟩:=p
  exact fun vs F1 H1 rp c av=>h vs F1 H1 d ρ1 rp c av (Po.shift (show Po C own m σ F H (k (d,ρ1)) Q from hp) c)
 | exc x=>exact hp
 | bad=>exact hp.elim
noncomputable def qC:Sl->Out (List D×Sl):=fun ρ=>.ok ([],ρ)
noncomputable def qd (fe:Sl->Out (D×Sl)) (fr:Sl->Out (List D×Sl)):Sl->Out (List D×Sl):=fun ρ=>(fe ρ).bind fun p=>(fr p.2).bind fun q=>.ok (p.1::q.1,q.2)
noncomputable def jY (fr:Sl->Out (List D×Sl)):Sl->Out (List D×Sl):=fun ρ=>(fr ρ).bind fun q=>.ok (D.non::q.1,q.2)
section
variable {X:Cx} {C:Ct} {own:List Nat} {as:List AK} {e:Expr} {es:List Expr} {fe:Sl->Out (D×Sl)} {fr:Sl->Out (List D×Sl)} {m:Mo} {pos:Pos}
theorem qaQ {t t':TA} (h:PA X es t) (i:∀ σ H Q,t' σ H Q->t σ H Q):PA X es t':=⟨fun pos pins s σ H Q I hw=>h pos pins s σ H Q I (i σ H Q hw)⟩
theorem qg:PA X [] (tAr C own [] qC):=qaQ jM fun σ H Q ⟨F,ρ,rp,h⟩=>h [] F H rp .refl trivial
theorem QT {σ:St} {F H F1 H1:Hp} {d:D} {ρ1:Sl} {a:AK} {Q:List V->Hp->Prop} {v:V} (rp:∀ x,OA own σ x->H x≠none) (rp1:Rep C.K own F1 H1 σ ρ1) (c1:Chg (OA own σ) F H F1 H1) (hp:PoA C own (a::as) σ F H ((fr ρ1).bind fun q=>.ok (d::q.1,q.2)) Q)
  (ha:∀ F2 H2 vs ds,Chg (OA own σ) F1 H1 F2 H2->ArgV C.K H F2 H2 σ as vs ds->ArgV C.K H F2 H2 σ (a::as) (v::vs) (d::ds)):tAr C own as fr σ H1 fun xs H2=>Q (v::xs) H2:=by
 refine ⟨F1,ρ1,rp1,?_⟩
 cases q:fr ρ1 with
 | ok p=>
  rw [q] at hp
  obtain ⟨ds,ρ2⟩:=p
  exact fun vs F2 H2 rp2 c2 av=>hp (v::vs) F2 H2 rp2 (c1.trans' c2) (ha F2 H2 vs ds c2 (ArgV.back c1 av))
 | exc c=>rw [q] at hp; exact fun F' H' s io c'=>hp F' H' s io (c1.trans' c')
 | bad=>rw [q] at hp; exact hp.elim
theorem qc (ha:PE X e (tE C own m fe)) (hr:PA X es (tAr C own as fr)) (hm:m≠.any:=by decide) (hs:starEach (e::es) X.env=(false,eval e X.env)::starEach es X.env:=by exact kw rfl):PA X (e::es) (tAr C own (.vl::as) (qd fe fr)):=by
 refine qaQ (qY (uc ha hm) hr hs) fun σ H Q ⟨F,ρ,rp,h⟩=>⟨F,ρ,rp,PoA.bindV h fun v F1 H1 d ρ1 rp1 c1 mo1 h1=>?_⟩
 exact QT (fun x z=>(rp.OA_there z).1) rp1 c1 h1 fun F2 H2 vs ds c2 av=>⟨Is.mono c2.grow mo1,av⟩
theorem qW {i:Nat} {x:Str} {px:Pos} (hN:X.N[i]?=some x) (hv:Vis X.env.scope x) (ho:i∈own) (hr:PA X es (tAr C own as fr)) (hs:starEach (.Name x px::es) X.env=(false,eval (.Name x px) X.env)::starEach es X.env:=by rfl)
  (hd:(x == ("__debug__":Str))=false:=by decide) (hcd:(x == ("__classdict__":Str))=false:=by decide):PA X (.Name x px::es) (tAr C own (.sl i::as) (jY fr)):=by
 refine qaQ (qY (wa hN hv hd hcd) hr hs) fun σ H Q ⟨F,ρ,rp,h⟩=>?_
 obtain ⟨d,hd⟩:=rp.opn i ho
 obtain ⟨a,h1,h2,h3⟩:=rp.ow i d ho hd
 exact ⟨_,h1,QT (fun x z=>(rp.OA_there z).1) rp .refl h fun F2 H2 vs ds c2 av=>⟨h1,rfl,av⟩⟩
theorem ArgV.isL {K:Frag} {H0 F H:Hp} {σ:St}:∀ {as:List AK} {vs:List V} {ds:List D},(as.all fun a=>decide (a=.vl))=true->ArgV K H0 F H σ as vs ds->IsL K F vs ds
 | [],[],[],_,_=>.nil
 | .vl::as,v::vs,d::ds,h,a=>.cons a.1 (ArgV.isL (by simpa using h) a.2)
 | .sl i::as,_,_,h,a=>by simp at h
 | .fr::as,_,_,h,a=>by simp at h
 | [],_::_,_,_,h=>h.elim
 | [],[],_::_,_,h=>h.elim
 | .vl::_,[],_,_,h=>h.elim
 | .vl::_,_::_,[],_,h=>h.elim
noncomputable def yE (fr:Sl->Out (List D×Sl)):Sl->Out (D×Sl):=fun ρ=>(fr ρ).bind fun p=>if p.1.length<=sizeLine then .ok (.tup p.1,p.2) else .bad
noncomputable def xa (fr:Sl->Out (List D×Sl)):Sl->Out (D×Sl):=fun ρ=>(fr ρ).bind fun p=>if p.1.length<=sizeLine then .ok (.lst p.1,p.2) else .bad
theorem qcI {σ:St} {F H:Hp} {ρ:Sl} {p:Addr} {u:HO} (rp:Rep C.K own F H σ ρ) (hp:H p=none):Rep C.K own (upd F p u) (upd H p u) σ ρ/\Chg No F H (upd F p u) (upd H p u):=by
 have hF:F p=none:=by
  cases q:F p with
  | none=>rfl
  | some o=>rw [rp.sub p o q] at hp; cases hp
 have c:Chg No F H (upd F p u) (upd H p u):=⟨fun b o e _=>by rw [qA (qE e hp)]; exact e,fun b e=>by
  by_cases q:b=p
  ·rw [q,qo]; simp
  ·rw [qA q]; exact e,fun b o e=>by rw [qA (qE e hF)]; exact e,fun b e=>by
  by_cases q:b=p
  ·exact .inr (.inl (by rw [q]; exact hp))
  ·rw [qA q] at e; exact .inl e⟩
 refine ⟨rp.grow c fun b o e=>?_,c⟩
 by_cases q:b=p
 ·subst q; rw [qo] at e ⊢; exact e
 ·rw [qA q] at e ⊢; exact rp.sub b o e
theorem UQ {σ:St} {F H:Hp} {ρ:Sl} {p:Addr} {u:HO} (rp:Rep C.K own F H σ ρ) (hp:H p=none):Rep C.K own F (upd H p u) σ ρ/\Chg No F H F (upd H p u)/\F p=none:=by
 have hF:F p=none:=by
  cases q:F p with
  | none=>rfl
  | some o=>rw [rp.sub p o q] at hp; cases hp
 have c:Chg No F H F (upd H p u):=⟨fun b o e _=>by rw [qA (qE e hp)]; exact e,fun b e=>by
  by_cases q:b=p
  ·rw [q,qo]; simp
  ·rw [qA q]; exact e,Same.refl _,fun b e=>.inl e⟩
 exact ⟨rp.grow c fun b o e=>by rw [qA (qE e hF)]; exact rp.sub b o e,c,hF⟩
theorem kL {x1} (h:PA X es (tAr C own as fr)) (ha:(as.all fun a=>decide (a=.vl))=true:=by decide):PE X (.Tuple es x1 pos) (tE C own .sh (yE fr)):=by
 refine jw (qcn h) fun σ H Q ⟨F,ρ,rp,h⟩=>⟨F,ρ,rp,Po.bindA h fun vs F1 H1 ds ρ1 rp1 c1 av h1=>?_⟩
 have il:=av.isL ha
 have h1:Po C own .sh σ F1 H1 (if ds.length<=sizeLine then .ok (.tup ds,ρ1) else .bad) Q:=h1
 by_cases z:ds.length<=sizeLine
 ·rw [if_pos z] at h1
  refine ⟨by rw [il.length]; exact z,fun p hp=>?_⟩
  obtain ⟨rp2,c2⟩:=qcI (u:=.tup vs) rp1 hp
  exact h1 _ _ _ rp2 c2.ofNo (.tup (.inl (.inl qo)) (il.mono c2.grow))
 ·rw [if_neg z] at h1; exact h1.elim
theorem jZ (h:PA X es (tAr C own as fr)) (ha:(as.all fun a=>decide (a=.vl))=true:=by decide):PE X (.List es pos) (tE C own .fr (xa fr)):=by
 refine jw (qco h) fun σ H Q ⟨F,ρ,rp,h⟩=>⟨F,ρ,rp,Po.bindA h fun vs F1 H1 ds ρ1 rp1 c1 av h1=>?_⟩
 have il:=av.isL ha
 have h1:Po C own .fr σ F1 H1 (if ds.length<=sizeLine then .ok (.lst ds,ρ1) else .bad) Q:=h1
 by_cases z:ds.length<=sizeLine
 ·rw [if_pos z] at h1
  refine ⟨by rw [il.length]; exact z,fun p hp=>?_⟩
  obtain ⟨rp2,c2,hF⟩:=UQ (u:=.lst vs) rp1 hp
  exact h1 _ _ _ rp2 c2.ofNo ⟨p,rfl,hp,hF,vs,qo,il⟩
 ·rw [if_neg z] at h1; exact h1.elim
theorem Vt:PE X (.Dict [] [] pos) (tE C own .fr (dC (.dct []))):=by
 refine jw Zd fun σ H Q ⟨F,ρ,rp,h⟩ p hp=>?_
 obtain ⟨rp2,c2,hF⟩:=UQ (u:=.dK []) rp hp
 exact h _ _ _ rp2 c2.ofNo ⟨p,rfl,hp,hF,[],qo,.nil⟩
noncomputable def ixD:D->D->Out D
 | .lst xs,.int i=>match atI xs i with
  | some d=>.ok d
  | none=>.bad
 | .tup xs,.int i=>match atI xs i with
  | some d=>.ok d
  | none=>.bad
 | .str x,.int i=>match atI x.cps.toList i with
  | some c=>.ok (.str ⟨#[c]⟩)
  | none=>.bad
 | .dct kvs,.str x=>match (kvs.find? fun kv=>decide (kv.1=Sum.inr x)) with
  | some kv=>.ok kv.2
  | none=>.bad
 | .dct kvs,.int x=>match (kvs.find? fun kv=>decide (kv.1=Sum.inl x)) with
  | some kv=>.ok kv.2
  | none=>.bad
 | _,_=>.bad
theorem IsL.atI {K:Frag} {F:Hp} {vs:List V} {ds:List D} {i:Int} {d:D} (h:IsL K F vs ds) (e:L2.atI ds i=some d):∃ v,L2.atI vs i=some v/\Is K F v d:=by
 unfold L2.atI at e ⊢
 rw [h.length]
 cases q:ixN ds.length i with
 | none=>rw [q] at e; cases e
 | some j=>
  rw [q] at e
  exact h.getD e
theorem IsK.find {K:Frag} {F:Hp} {k:Key}:∀ {vs:List (Key×V)} {ds:List (Key×D)} {d:Key×D},IsK K F vs ds->(ds.find? fun kv=>decide (kv.1=k))=some d->∃ v,JK vs k=some v/\Is K F v d.2
 | _,_,_,.nil,e=>by simp at e
 | _,_,d,.cons (k:=k') (vs:=vs) h t,e=>by
  by_cases q:k'=k
  ·rw [List.find?_cons_of_pos (by simp [q])] at e
   cases e
   exact ⟨_,yZ q,h⟩
  ·rw [List.find?_cons_of_neg (by simp [q])] at e
   obtain ⟨v,h1,h2⟩:=IsK.find t e
   exact ⟨v,by rw [uq q]; exact h1,h2⟩
theorem Vu (c:Nat):(⟨#[c]⟩:Str).length<=sizeLine:=by
 show 1<=sizeLine
 rw [sizeLine_eq]; decide
def qe9 (K:Frag):R2:=fun x y H Q=>rIx K x y H Q\/∃ a v,x=.ref a/\DGet H a y (some v)/\Q v H
theorem GO (hu:X.A.units+1 < cLine):IxR X (qe9 X.K):=by
 refine IxR.or qcs ?_
 intro value slice pins s σ H x y v u Q I rx ry h hs
 obtain ⟨a,w,rfl,g,q⟩:=h
 cases rx
 obtain ⟨T,ht⟩:∃ T,s.TypeIs (.ref a) T/\T = "dict":=⟨_,JY I g,rfl⟩
 obtain ⟨ht,rfl⟩:=ht
 exact tail_any ht PySem.slot_dict_getitem.lookup (UA hu I g ry fun w' s' I' r=>⟨w,H,I',r,q⟩) hs
end
section
variable {X:Cx} {C:Ct} {own:List Nat} {a b e:Expr} {f fa fb:Sl->Out (D×Sl)} {m ma mb:Mo} {pos:Pos}
theorem GP {σ:St} {F H:Hp} {x y:V} {dx dy:D} {Q:VK} (hK:C.K=X.K) (sb:Same F H) (tx:TopIs C.K F H x dx) (ty:TopIs C.K F H y dy) (po:PoV C .sh F H (ixD dx dy) Q):qe9 X.K x y H Q:=by
 rw [hK] at tx ty
 cases dx with
 | lst xs=>
  cases dy <;> try exact po.elim
  rename_i i
  obtain rfl:=ty.int
  obtain ⟨a,vs,rfl,p,t⟩:=tx.lst sb
  unfold ixD at po
  cases e:L2.atI xs i with
  | none=>simp only [e] at po; exact po.elim
  | some d=>
   simp only [e] at po
   obtain ⟨v,h1,h2⟩:=t.atI e
   exact .inl (.inl ⟨a,vs,i,v,rfl,rfl,p,h1,po v F H sb .refl (by rw [hK]; exact h2)⟩)
 | tup xs=>
  cases dy <;> try exact po.elim
  rename_i i
  obtain rfl:=ty.int
  obtain ⟨a,vs,rfl,p,t⟩:=tx.tup sb
  unfold ixD at po
  cases e:L2.atI xs i with
  | none=>simp only [e] at po; exact po.elim
  | some d=>
   simp only [e] at po
   obtain ⟨v,h1,h2⟩:=t.atI e
   exact .inl (.inr (.inl ⟨a,vs,i,v,rfl,rfl,p,h1,po v F H sb .refl (by rw [hK]; exact h2)⟩))
 | str z=>
  cases dy <;> try exact po.elim
  rename_i i
  obtain rfl:=ty.int
  obtain ⟨rfl,hz⟩:=tx.str
  unfold ixD at po
  cases e:L2.atI z.cps.toList i with
  | none=>simp only [e] at po; exact po.elim
  | some c=>
   simp only [e] at po
   exact .inl (.inr (.inr ⟨z,i,c,rfl,rfl,hz,e,po _ F H sb .refl (.str (Vu c))⟩))
 | dct kvs=>
  obtain ⟨a,kv,rfl,p,t⟩:=tx.dct sb
  cases dy with
  | int i=>
   obtain rfl:=ty.int
   unfold ixD at po
   cases e:(kvs.find? fun kv=>decide (kv.1=Sum.inl i)) with
   | none=>simp only [e] at po; exact po.elim
   | some d=>
    simp only [e] at po
    obtain ⟨v,h1,h2⟩:=t.find e
    exact .inr ⟨a,v,rfl,by rw [<-h1]; exact DGet.k (k:=Sum.inl i) p,po v F H sb .refl (by rw [hK]; exact h2)⟩
  | str z=>
   obtain ⟨rfl,_⟩:=ty.str
   unfold ixD at po
   cases e:(kvs.find? fun kv=>decide (kv.1=Sum.inr z)) with
   | none=>simp only [e] at po; exact po.elim
   | some d=>
    simp only [e] at po
    obtain ⟨v,h1,h2⟩:=t.find e
    exact .inr ⟨a,v,rfl,by rw [<-h1]; exact DGet.k (k:=Sum.inr z) p,po v F H sb .refl (by rw [hK]; exact h2)⟩
  | _=>exact po.elim
 | _=>exact po.elim
theorem jb (hK:C.K=X.K) (hu:X.A.units+64 < cLine) (ha:PE X a (tE C own ma fa)) (hb:PE X b (tE C own mb fb)) (hs:JV b) (hma:ma≠.any:=by decide):PE X (.Subscript a b pos) (tE C own .sh (d2 ixD fa fb)):=by
 refine jw (qcq (GO (by omega)) ha hb hs) fun σ H Q h=>?_
 obtain ⟨F,ρ,rp,h⟩:=QP (mb:=mb) hma h
 refine ⟨F,ρ,rp,?_⟩
 cases q:fa ρ with
 | ok p=>
  rw [q] at h
  obtain ⟨d,ρ1⟩:=p
  intro v F1 H1 rp1 c1 mo1
  obtain ⟨F2,ρ2,rp2,h2⟩:=h v F1 H1 rp1 c1 mo1
  refine ⟨F2,ρ2,rp2,?_⟩
  cases q2:fb ρ2 with
  | ok p=>
   rw [q2] at h2
   obtain ⟨d',ρ3⟩:=p
   intro w F3 H3 rp3 c3 mo3
   obtain ⟨F4,dx,dy,sb,tx,ty,po⟩:=h2 w F3 H3 rp3 c3 mo3
   exact GP (σ:=σ) hK sb tx ty po
  | exc c=>rw [q2] at h2; exact h2
  | bad=>rw [q2] at h2; exact h2.elim
 | exc c=>rw [q] at h; exact h
 | bad=>rw [q] at h; exact h.elim
def gy (X:Cx) (C:Ct) (m:Mo) (f:Value) (g:D->Out D):Prop:=wS X f (fun xs H Q=>∃ x F dx,xs=[x]/\Same F H/\TopIs C.K F H x dx/\PoV C m F H (g dx) Q)
theorem uZ {σ:St} {H:Hp} {Q:VK} {g:D->Out D} (h:tE C own m (d1 g fa) σ H Q):XW (tE C own ma fa) qen σ H fun xs H1=>∃ x F dx,xs=[x]/\Same F H1/\TopIs C.K F H1 x dx/\PoV C m F H1 (g dx) Q:=by
 obtain ⟨F,ρ,rp,h⟩:=Zf (ma:=ma) h
 refine ⟨F,ρ,rp,?_⟩
 cases q:fa ρ with
 | ok p=>
  rw [q] at h
  obtain ⟨d,ρ1⟩:=p
  intro v F1 H1 rp1 c1 mo1
  obtain ⟨F2,dx,sb,tx,po⟩:=h v F1 H1 rp1 c1 mo1
  exact ⟨v,F2,dx,rfl,sb,tx,po⟩
 | exc c=>rw [q] at h; exact h
 | bad=>rw [q] at h; exact h.elim
theorem qH {x:Str} {id:String} {p:Pos} {g:D->Out D} (hc:gy X C m (.builtin id) g) (hg:Gl X x) (hm:X.mg x=none) (hv:bootBuiltins x=some (.builtin id)) (ha:PE X e (tE C own ma fa)) (hn:x ≠ "__name__":=by decide) (hdb:(x == ("__debug__":Str))=false:=by decide)
  (he:starEach [e] X.env=[(false,eval e X.env)]:=by exact qU rfl):PE X (.Call (.Name x p) [e] [] pos) (tE C own m (d1 g fa)):=
 jw (um hc hg hm hv (qY ha jM he) hn hdb (by rw [he]; rfl) rfl) fun _ _ _ h=>uZ h
theorem jG {x:Str} {T:String} {p:Pos} {g:D->Out D} (hc:gy X C m (.type T) g) (hg:Gl X x) (hm:X.mg x=none) (hv:bootBuiltins x=some (.type T)) (ha:PE X e (tE C own ma fa)) (hn:x ≠ "__name__":=by decide) (hdb:(x == ("__debug__":Str))=false:=by decide)
  (he:starEach [e] X.env=[(false,eval e X.env)]:=by exact qU rfl):PE X (.Call (.Name x p) [e] [] pos) (tE C own m (d1 g fa)):=
 jw (wb hc hg hm hv (qY ha jM he) hn hdb (by rw [he]; rfl) rfl) fun _ _ _ h=>uZ h
noncomputable def ka:D->Out D
 | .str x=>.ok (.int x.length)
 | .lst xs=>.ok (.int xs.length)
 | .tup xs=>.ok (.int xs.length)
 | .dct xs=>.ok (.int xs.length)
 | _=>.bad
theorem IsK.length {K:Frag} {F:Hp}:∀ {vs:List (Key×V)} {ds:List (Key×D)},IsK K F vs ds->vs.length=ds.length
 | _,_,.nil=>rfl
 | _,_,.cons _ t=>congrArg (·+1) (IsK.length t)
theorem jx (hK:C.K=X.K):gy X C .sh (.builtin "len") ka:=by
 intro pins s σ H xs us Q I r h
 obtain ⟨x,F,dx,rfl,sb,tx,po⟩:=h
 cases dx with
 | str z=>
  obtain ⟨rfl,hz⟩:=tx.str
  exact gn pins s σ H _ us Q I r ⟨_,_,rfl,⟨hz,rfl⟩,po _ F H sb .refl (.int _)⟩
 | lst ds=>
  obtain ⟨a,vs,rfl,p,t⟩:=tx.lst sb
  exact gn pins s σ H _ us Q I r ⟨_,ds.length,rfl,.inl ⟨vs,by rw [<-hK]; exact p,t.length.symm⟩,po _ F H sb .refl (.int _)⟩
 | tup ds=>
  obtain ⟨a,vs,rfl,p,t⟩:=tx.tup sb
  exact gn pins s σ H _ us Q I r ⟨_,ds.length,rfl,.inr ⟨vs,by rw [<-hK]; exact p,t.length.symm⟩,po _ F H sb .refl (.int _)⟩
 | dct ds=>
  obtain ⟨a,vs,rfl,p,t⟩:=tx.dct sb
  refine UD pins s σ H _ us Q I r ⟨a,vs,rfl,p,?_⟩
  rw [t.length]
  exact po _ F H sb .refl (.int _)
 | _=>exact po.elim
noncomputable def kz:D->D->Out D
 | .int i,.int j=>.ok (.int (i+j))
 | .str x,.str y=>if x.length+y.length<=sizeLine then .ok (.str (x++y)) else .bad
 | .lst xs,.lst ys=>if xs.length+ys.length<=sizeLine then .ok (.lst (xs++ys)) else .bad
 | .tup xs,.tup ys=>if xs.length+ys.length<=sizeLine then .ok (.tup (xs++ys)) else .bad
 | _,_=>.bad
theorem xE {F H:Hp} {p:Addr} {u:HO} (sb:Same F H) (hp:H p=none):Same (upd F p u) (upd H p u)/\Chg No F H (upd F p u) (upd H p u):=by
 have hF:F p=none:=by
  cases q:F p with
  | none=>rfl
  | some o=>rw [sb p o q] at hp; cases hp
 refine ⟨fun b o e=>?_,⟨fun b o e _=>by rw [qA (qE e hp)]; exact e,fun b e=>?_,fun b o e=>by rw [qA (qE e hF)]; exact e,fun b e=>?_⟩⟩
 ·by_cases q:b=p
  ·subst q; rw [qo] at e ⊢; exact e
  ·rw [qA q] at e ⊢; exact sb b o e
 ·by_cases q:b=p
  ·rw [q,qo]; simp
  ·rw [qA q]; exact e
 ·by_cases q:b=p
  ·exact .inr (.inl (by rw [q]; exact hp))
  ·rw [qA q] at e; exact .inl e
theorem kA {F H:Hp} {p:Addr} {u:HO} (sb:Same F H) (hp:H p=none):Same F (upd H p u)/\Chg No F H F (upd H p u)/\F p=none:=by
 have hF:F p=none:=by
  cases q:F p with
  | none=>rfl
  | some o=>rw [sb p o q] at hp; cases hp
 refine ⟨fun b o e=>by rw [qA (qE e hF)]; exact sb b o e,⟨fun b o e _=>by rw [qA (qE e hp)]; exact e,fun b e=>?_,Same.refl _,fun b e=>.inl e⟩,hF⟩
 by_cases q:b=p
 ·rw [q,qo]; simp
 ·rw [qA q]; exact e
theorem Kc (x y:Str):(x++y).length=x.length+y.length:=by
 show (x.cps++y.cps).size=_
 simp [Str.length]
theorem qaR:OpR X (binaryOp .Add) (fun x y H Q=>∃ l b xs zs,x=.ref l/\y=.ref b/\SqL X.K H l xs/\SqL X.K H b zs/\xs.length+zs.length<=sizeLine/\∀ p,H p=none->Q (.ref p) (upd H p (.lst (xs++zs)))):=by
 intro pins s σ H x y v u Q I rx ry h
 obtain ⟨l,b,xs,zs,rfl,rfl,h1,h2,hz,q⟩:=h
 cases rx
 cases ry
 obtain ⟨its,r1,p1,_⟩:=I.list h1
 obtain ⟨its2,r2,p2,_⟩:=I.list h2
 obtain ⟨⟨cls,dd,data,sl⟩,ho,hc,n,hd⟩:=id p1.isList
 obtain ⟨⟨cls2,dd2,data2,sl2⟩,ho2,hc2,n2,hd2⟩:=id p2.isList
 simp only at hc hd hc2 hd2
 subst hc hd hc2 hd2
 have hl1:=r1.length
 have hl2:=r2.length
 refine concat_meets ⟨_,ho,rfl⟩ ⟨_,ho2,rfl⟩ noFill_list_add seq_list_add PySem.F.slot_list_add PySem.F.entry_list_add (PySem.F.args_list_add_2 _ _)
  (list_addW l b its.toArray its2.toArray n n2 dd dd2 sl sl2 (by simp only [List.size_toArray]; omega)) ⟨ho,ho2,?_⟩
 have ea:its.toArray++its2.toArray=(its++its2).toArray:=by simp
 rw [ea]
 exact ⟨.ref _,_,I.lnew (t':=s.toks) (r1.append r2) (by rw [List.length_append]; exact hz),rfl,q _ I.fresh⟩
theorem qaS:OpR X (binaryOp .Add) (fun x y H Q=>∃ a b ys,x=.ref a/\y=.ref b/\SqT X.K H a []/\SqT X.K H b ys/\Q (.ref b) H):=by
 intro pins s σ H x y v u Q I rx ry h
 obtain ⟨a,b,ys,rfl,rfl,h1,h2,q⟩:=h
 cases rx
 cases ry
 obtain ⟨its,r1,p1,_⟩:=I.tuple h1
 obtain ⟨its2,r2,p2,_⟩:=I.tuple h2
 cases r1
 obtain ⟨⟨cls,dd,data,sl⟩,ho,hc,n,hd⟩:=id p1
 obtain ⟨⟨cls2,dd2,data2,sl2⟩,ho2,hc2,n2,hd2⟩:=id p2
 simp only at hc hd hc2 hd2
 subst hc hd hc2 hd2
 exact concat_meets ⟨_,ho,rfl⟩ ⟨_,ho2,rfl⟩ noFill_tuple_add seq_tuple_add PySem.F.slot_tuple_add PySem.F.entry_tuple_add (PySem.F.args_tuple_add_2 _ _)
  (tuple_addW0 a b _ _ n n2 dd dd2 sl sl2 rfl) ⟨ho,ho2,⟨.ref b,H,I,rfl,q⟩⟩
theorem jA (hK:C.K=X.K):OpD X C .sh (binaryOp .Add) kz:=by
 intro pins s σ H x y v u Q I rx ry h
 obtain ⟨F,dx,dy,sb,tx,ty,po⟩:=h
 cases dx with
 | int i=>
  cases dy <;> try exact po.elim
  obtain rfl:=tx.int
  obtain rfl:=ty.int
  exact qcg pins s σ H _ _ v u Q I rx ry ⟨_,_,rfl,rfl,po _ F H sb .refl (.int _)⟩
 | str a=>
  cases dy <;> try exact po.elim
  rename_i b
  obtain ⟨rfl,_⟩:=tx.str
  obtain ⟨rfl,_⟩:=ty.str
  have po:PoV C .sh F H (if a.length+b.length<=sizeLine then .ok (.str (a++b)) else .bad) Q:=po
  by_cases z:a.length+b.length<=sizeLine
  ·rw [if_pos z] at po
   exact Wv pins s σ H _ _ v u Q I rx ry ⟨_,_,rfl,rfl,z,po _ F H sb .refl (.str (by rw [Kc]; exact z))⟩
  ·rw [if_neg z] at po; exact po.elim
 | lst xs=>
  cases dy <;> try exact po.elim
  rename_i ys
  obtain ⟨a,vs,rfl,p1,t1⟩:=tx.lst sb
  obtain ⟨b,ws,rfl,p2,t2⟩:=ty.lst sb
  have po:PoV C .sh F H (if xs.length+ys.length<=sizeLine then .ok (.lst (xs++ys)) else .bad) Q:=po
  by_cases z:xs.length+ys.length<=sizeLine
  ·rw [if_pos z] at po
   refine qaR pins s σ H _ _ v u Q I rx ry ⟨a,b,vs,ws,rfl,rfl,by rw [<-hK]; exact p1,by rw [<-hK]; exact p2,by rw [t1.length,t2.length]; exact z,fun p hp=>?_⟩
   obtain ⟨s2,c2⟩:=xE (u:=.lst (vs++ws)) sb hp
   exact po _ _ _ s2 c2 (.lst (.inl (.inl qo)) ((t1.append t2).mono c2.grow))
  ·rw [if_neg z] at po; exact po.elim
 | tup xs=>
  cases dy <;> try exact po.elim
  rename_i ys
  obtain ⟨a,vs,rfl,p1,t1⟩:=tx.tup sb
  obtain ⟨b,ws,rfl,p2,t2⟩:=ty.tup sb
  have po:PoV C .sh F H (if xs.length+ys.length<=sizeLine then .ok (.tup (xs++ys)) else .bad) Q:=po
  by_cases z:xs.length+ys.length<=sizeLine
  ·rw [if_pos z] at po
   cases vs with
   | nil=>
    cases t1
    rcases ty with ty | ⟨_,_,ty⟩
    ·exact qaS pins s σ H _ _ v u Q I rx ry ⟨a,b,ws,rfl,rfl,by rw [<-hK]; exact p1,by rw [<-hK]; exact p2,po _ F H sb .refl ty⟩
    ·exact ty.elim
   | cons v0 vs=>
    refine qaE pins s σ H _ _ v u Q I rx ry ⟨a,b,v0::vs,ws,rfl,rfl,by rw [<-hK]; exact p1,by rw [<-hK]; exact p2,by simp,by rw [t1.length,t2.length]; exact z,fun e=>?_,fun e p hp=>?_⟩
    ·subst e
     cases t2
     rcases tx with tx | ⟨_,_,tx⟩
     ·refine po _ F H sb .refl ?_
      rw [List.append_nil]
      exact tx
     ·exact tx.elim
    ·obtain ⟨s2,c2⟩:=xE (u:=.tup (v0::vs++ws)) sb hp
     exact po _ _ _ s2 c2 (.tup (.inl (.inl qo)) ((t1.append t2).mono c2.grow))
  ·rw [if_neg z] at po; exact po.elim
 | _=>exact po.elim
end
inductive PM where
 | val | io | tk
 deriving DecidableEq
noncomputable def yT:List PM->List V->List Addr
 | .val::ms,_::vs=>yT ms vs
 | .io::ms,.ref a::vs=>a::yT ms vs
 | .tk::ms,.ref a::vs=>a::yT ms vs
 | _::ms,_::vs=>yT ms vs
 | _,_=>[]
def ArgsIs (K:Frag) (F H:Hp):List PM->List V->List D->Prop
 | [],[],[]=>True
 | .val::ms,v::vs,d::ds=>Is K F v d/\ArgsIs K F H ms vs ds
 | .io::ms,v::vs,d::ds=>(∃ a,v=.ref a/\F a=none/\OwnIs K F H a d)/\ArgsIs K F H ms vs ds
 | .tk::ms,v::vs,d::ds=>(∃ a,v=.ref a/\F a=none/\OwnIs K F H a d)/\ArgsIs K F H ms vs ds
 | _,_,_=>False
def uw (K:Frag) (F H:Hp):List PM->List V->List D->Prop
 | [],_,_=>True
 | .io::ms,v::vs,d::ds=>(∃ a,v=.ref a/\F a=none/\OwnIs K F H a d)/\uw K F H ms vs ds
 | _::ms,_::vs,_::ds=>uw K F H ms vs ds
 | _,_,_=>False
abbrev LA (ms:List PM) (vs:List V):Addr->Prop:=fun b=>b∈yT ms vs
def PoG (K:Frag) (cv:Str->Value) (ms:List PM) (mr:Mo) (vs:List V) (F H:Hp) (Q:VK) (E:XK) (o:Out (D×List D)):Prop:=match o with
 | .ok (d,outs)=>∀ v F' H',Same F' H'->Chg (LA ms vs) F H F' H'->uw K F' H' ms vs outs->MoIs K mr H F' H' v d->Q v H'
 | .exc c o=>∀ F' H',Same F' H'->Chg (LA ms vs) F H F' H'->uw K F' H' ms vs (o.map (·.getD .non))->E (cv c) none H'
 | .bad=>False
def spD (K:Frag) (cv:Str->Value) (ms:List PM) (mr:Mo) (G:List D->Out (D×List D)):Sp:=fun vs H Q E=>∃ F ds,Same F H/\ArgsIs K F H ms vs ds/\(yT ms vs).Nodup/\PoG K cv ms mr vs F H Q E (G ds)
theorem ArgsIs.length {K:Frag} {F H:Hp}:∀ {ms:List PM} {vs:List V} {ds:List D},ArgsIs K F H ms vs ds->vs.length=ms.length/\ds.length=ms.length
 | [],[],[],_=>⟨rfl,rfl⟩
 | .val::ms,v::vs,d::ds,h=>by have:=ArgsIs.length h.2; simp [this]
 | .io::ms,v::vs,d::ds,h=>by have:=ArgsIs.length h.2; simp [this]
 | .tk::ms,v::vs,d::ds,h=>by have:=ArgsIs.length h.2; simp [this]
 | [],_::_,_,h=>h.elim
 | [],[],_::_,h=>h.elim
 | .val::_,[],_,h=>h.elim
 | .val::_,_::_,[],h=>h.elim
 | .io::_,[],_,h=>h.elim
 | .io::_,_::_,[],h=>h.elim
 | .tk::_,[],_,h=>h.elim
 | .tk::_,_::_,[],h=>h.elim
noncomputable def jR (n:Nat):List PM->List Nat
 | []=>[]
 | .val::ms=>jR (n+1) ms
 | _::ms=>n::jR (n+1) ms
noncomputable def WC (n:Nat):List PM->List Nat
 | []=>[]
 | .io::ms=>n::WC (n+1) ms
 | _::ms=>WC (n+1) ms
theorem ux {n:Nat}:∀ {ms:List PM} {i:Nat},i∈jR n ms->n<=i/\i < n+ms.length:=by
 intro ms
 induction ms generalizing n with
 | nil=>intro i h; simp [jR] at h
 | cons m ms ih=>
  intro i h
  cases m with
  | val=>have:=ih (n:=n+1) h; simp only [List.length_cons]; omega
  | io=>
   rcases List.mem_cons.mp h with e | h
   ·simp only [List.length_cons]; omega
   ·have:=ih (n:=n+1) h; simp only [List.length_cons]; omega
  | tk=>
   rcases List.mem_cons.mp h with e | h
   ·simp only [List.length_cons]; omega
   ·have:=ih (n:=n+1) h; simp only [List.length_cons]; omega
theorem Zm {n:Nat}:∀ {ms:List PM} {i:Nat},i∈WC n ms->i∈jR n ms:=by
 intro ms
 induction ms generalizing n with
 | nil=>intro i h; simp [WC] at h
 | cons m ms ih=>
  intro i h
  cases m with
  | val=>exact ih (n:=n+1) h
  | io=>
   rcases List.mem_cons.mp h with e | h
   ·exact List.mem_cons.mpr (.inl e)
   ·exact List.mem_cons_of_mem _ (ih (n:=n+1) h)
  | tk=>exact List.mem_cons_of_mem _ (ih (n:=n+1) h)
theorem WD {K:Frag} {F H:Hp}:∀ {ms:List PM} {vs:List V} {ds:List D} {n:Nat},ArgsIs K F H ms vs ds ->
  (∀ j d,ds[j]?=some d->n+j∉jR n ms->∃ v,vs[j]?=some v/\Is K F v d) /\
  (∀ j d,ds[j]?=some d->n+j∈jR n ms->∃ a,vs[j]?=some (.ref a)/\F a=none/\OwnIs K F H a d):=by
 intro ms
 induction ms with
 | nil=>intro vs ds n h; cases vs <;> cases ds <;> first | exact h.elim | (refine ⟨fun j d e=>?_,fun j d e=>?_⟩ <;> simp at e)
 | cons m ms ih=>
  intro vs ds n h
  cases vs with
  | nil=>cases m <;> exact h.elim
  | cons v vs=>
   cases ds with
   | nil=>cases m <;> exact h.elim
   | cons d ds=>
    cases m with
    | val=>
     obtain ⟨h1,h2⟩:=h
     obtain ⟨i1,i2⟩:=ih (n:=n+1) h2
     refine ⟨fun j e hj hn=>?_,fun j e hj hn=>?_⟩
     ·cases j with
      | zero=>simp at hj; subst hj; exact ⟨v,rfl,h1⟩
      | succ j=>simpa using i1 j e (by simpa using hj) (by rw [show n+1+j=n+(j+1) by omega]; exact hn)
     ·cases j with
      | zero=>have:=ux (n:=n+1) hn; omega
      | succ j=>simpa using i2 j e (by simpa using hj) (by rw [show n+1+j=n+(j+1) by omega]; exact hn)
    | io=>
     obtain ⟨⟨a,rfl,h1⟩,h2⟩:=h
     obtain ⟨i1,i2⟩:=ih (n:=n+1) h2
     refine ⟨fun j e hj hn=>?_,fun j e hj hn=>?_⟩
     ·cases j with
      | zero=>exact absurd (List.mem_cons.mpr (.inl rfl)) hn
      | succ j=>simpa using i1 j e (by simpa using hj) (fun z=>hn (List.mem_cons_of_mem _ (by rw [show n+(j+1)=n+1+j by omega]; exact z)))
     ·cases j with
      | zero=>simp at hj; subst hj; exact ⟨a,rfl,h1⟩
      | succ j=>
       have hm:n+1+j∈jR (n+1) ms:=by
        rcases List.mem_cons.mp hn with z | z
        ·omega
        ·rw [show n+1+j=n+(j+1) by omega]; exact z
       simpa using i2 j e (by simpa using hj) hm
    | tk=>
     obtain ⟨⟨a,rfl,h1⟩,h2⟩:=h
     obtain ⟨i1,i2⟩:=ih (n:=n+1) h2
     refine ⟨fun j e hj hn=>?_,fun j e hj hn=>?_⟩
     ·cases j with
      | zero=>exact absurd (List.mem_cons.mpr (.inl rfl)) hn
      | succ j=>simpa using i1 j e (by simpa using hj) (fun z=>hn (List.mem_cons_of_mem _ (by rw [show n+(j+1)=n+1+j by omega]; exact z)))
     ·cases j with
      | zero=>simp at hj; subst hj; exact ⟨a,rfl,h1⟩
      | succ j=>
       have hm:n+1+j∈jR (n+1) ms:=by
        rcases List.mem_cons.mp hn with z | z
        ·omega
        ·rw [show n+1+j=n+(j+1) by omega]; exact z
       simpa using i2 j e (by simpa using hj) hm
theorem UR {n:Nat}:∀ {ms:List PM} {vs:List V} {j:Nat} {a:Addr},n+j∈jR n ms->vs[j]?=some (.ref a)->a∈yT ms vs:=by
 intro ms
 induction ms generalizing n with
 | nil=>intro vs j a h; simp [jR] at h
 | cons m ms ih=>
  intro vs j a h e
  cases vs with
  | nil=>simp at e
  | cons v vs=>
   cases j with
   | zero=>
    simp at e; subst e
    cases m with
    | val=>have:=ux (n:=n+1) h; omega
    | io=>exact List.mem_cons.mpr (.inl rfl)
    | tk=>exact List.mem_cons.mpr (.inl rfl)
   | succ j=>
    have e':vs[j]?=some (.ref a):=by simpa using e
    have sub:n+1+j∈jR (n+1) ms:=by
     rw [show n+1+j=n+(j+1) by omega]
     cases m with
     | val=>exact h
     | io=>exact (List.mem_cons.mp h).resolve_left (by omega)
     | tk=>exact (List.mem_cons.mp h).resolve_left (by omega)
    have q:=ih (n:=n+1) sub e'
    cases m <;> cases v <;> first | exact q | exact List.mem_cons_of_mem _ q
theorem US {n:Nat}:∀ {ms:List PM} {vs:List V} {a:Addr},a∈yT ms vs->∃ j,n+j∈jR n ms/\vs[j]?=some (.ref a):=by
 intro ms
 induction ms generalizing n with
 | nil=>intro vs a h; cases vs <;> simp [yT] at h
 | cons m ms ih=>
  intro vs a h
  cases vs with
  | nil=>cases m <;> simp [yT] at h
  | cons v vs=>
   have up:∀ {b},b∈yT ms vs->∃ j,n+j∈jR n (m::ms)/\(v::vs)[j]?=some (.ref b):=fun hb=>by
    obtain ⟨j,h1,h2⟩:=ih (n:=n+1) hb
    refine ⟨j+1,?_,by simpa using h2⟩
    rw [show n+(j+1)=n+1+j by omega]
    cases m with
    | val=>exact h1
    | io=>exact List.mem_cons_of_mem _ h1
    | tk=>exact List.mem_cons_of_mem _ h1
   cases m with
   | val=>exact up (by cases v <;> exact h)
   | io=>
    cases v with
    | ref c=>
     rcases List.mem_cons.mp h with e | h
     ·subst e; exact ⟨0,List.mem_cons.mpr (.inl rfl),rfl⟩
     ·exact up h
    | _=>exact up h
   | tk=>
    cases v with
    | ref c=>
     rcases List.mem_cons.mp h with e | h
     ·subst e; exact ⟨0,List.mem_cons.mpr (.inl rfl),rfl⟩
     ·exact up h
    | _=>exact up h
theorem Zn {n:Nat}:∀ {ms:List PM} {vs:List V} {i j:Nat} {a:Addr},(yT ms vs).Nodup->n+i∈jR n ms->n+j∈jR n ms->vs[i]?=some (.ref a)->vs[j]?=some (.ref a)->i=j:=by
 intro ms
 induction ms generalizing n with
 | nil=>intro vs i j a _ h; simp [jR] at h
 | cons m ms ih=>
  intro vs i j a nd hi hj e1 e2
  cases vs with
  | nil=>simp at e1
  | cons v vs=>
   have sub:∀ {k},n+(k+1)∈jR n (m::ms)->n+1+k∈jR (n+1) ms:=fun {k} h=>by
    rw [show n+1+k=n+(k+1) by omega]
    cases m with
    | val=>exact h
    | io=>exact (List.mem_cons.mp h).resolve_left (by omega)
    | tk=>exact (List.mem_cons.mp h).resolve_left (by omega)
   have nd':(yT ms vs).Nodup:=by
    cases m <;> cases v <;> first | exact nd | exact (List.nodup_cons.mp nd).2
   have no0:∀ {k b},n+0∈jR n (m::ms)->v=.ref b->n+(k+1)∈jR n (m::ms)->vs[k]?=some (.ref b)->False:=fun {k b} h0 hv hk ek=>by
    subst hv
    have q:=UR (n:=n+1) (sub hk) ek
    cases m with
    | val=>have:=ux (n:=n+1) h0; omega
    | io=>exact (List.nodup_cons.mp nd).1 q
    | tk=>exact (List.nodup_cons.mp nd).1 q
   cases i with
   | zero=>
    cases j with
    | zero=>rfl
    | succ j=>exact (no0 hi (by simpa using e1) hj (by simpa using e2)).elim
   | succ i=>
    cases j with
    | zero=>exact (no0 hj (by simpa using e2) hi (by simpa using e1)).elim
    | succ j=>exact congrArg (·+1) (ih (n:=n+1) nd' (sub hi) (sub hj) (by simpa using e1) (by simpa using e2))
noncomputable def qw (N:List Str) (ds:List D):Sl:=ds.map some++List.replicate (N.length - ds.length) none
theorem get_start {α:Type} {N:List Str} {xs:List α} {i:Nat} {x:α}:(xs.map some++List.replicate (N.length - xs.length) none)[i]?=some (some x)↔xs[i]?=some x:=by
 by_cases h:i < xs.length
 ·rw [List.getElem?_append_left (by simpa using h),List.getElem?_map]
  cases e:xs[i]? with
  | none=>simp
  | some y=>simp
 ·rw [List.getElem?_append_right (by simpa using h),List.getElem?_replicate]
  have e:xs[i]?=none:=List.getElem?_eq_none_iff.mpr (by omega)
  rw [e]
  split <;> simp
theorem UT {K:Frag} {F H:Hp} {N:List Str} {ms:List PM} {vs:List V} {ds:List D} (sb:Same F H) (ar:ArgsIs K F H ms vs ds) (nd:(yT ms vs).Nodup):Rep K (jR 0 ms) F H (ul N vs) (qw N ds):=by
 obtain ⟨h1,h2⟩:=WD (n:=0) ar
 obtain ⟨l1,l2⟩:=ar.length
 refine ⟨sb,by simp [ul,qw,l1,l2],fun i d hi e=>?_,fun i d hi e=>?_,fun i hi=>?_,fun i j a hi hj e1 e2=>?_⟩
 ·obtain ⟨v,a,b⟩:=h1 i d (get_start.mp e) (by simpa using hi)
  exact ⟨v,get_start.mpr a,b⟩
 ·obtain ⟨v,a,b⟩:=h2 i d (get_start.mp e) (by simpa using hi)
  exact ⟨v,get_start.mpr a,b⟩
 ·have q:=ux hi
  have hl:i < ds.length:=by omega
  exact ⟨ds[i],get_start.mpr (by simp [hl])⟩
 ·exact Zn (n:=0) nd (by simpa using hi) (by simpa using hj) (get_start.mp e1) (get_start.mp e2)
theorem oa_start {N:List Str} {ms:List PM} {vs:List V} {b:Addr}:OA (jR 0 ms) (ul N vs) b↔LA ms vs b:=by
 constructor
 ·rintro ⟨i,hi,e⟩
  exact UR (n:=0) (by simpa using hi) (get_start.mp e)
 ·intro h
  obtain ⟨j,h1,h2⟩:=US (n:=0) h
  exact ⟨j,by simpa using h1,get_start.mpr h2⟩
noncomputable def qv (ρ:Sl):Nat->List PM->List D
 | _,[]=>[]
 | n,.io::ms=>((ρ[n]?).getD none).getD .non::qv ρ (n+1) ms
 | n,_::ms=>.non::qv ρ (n+1) ms
theorem qaT {K:Frag} {F H:Hp} {σ:St} {ρ:Sl} {N:List Str}:∀ {ms:List PM} {vs:List V} {n:Nat},vs.length=ms.length->(∀ i∈WC n ms,∃ d a,ρ[i]?=some (some d)/\vs[i - n]?=some (V.ref a)/\F a=none/\OwnIs K F H a d)->uw K F H ms vs (qv ρ n ms):=by
 intro ms
 induction ms with
 | nil=>intro vs n _ _; trivial
 | cons m ms ih=>
  intro vs n hl h
  cases vs with
  | nil=>simp at hl
  | cons v vs=>
   have rest:(∀ i∈WC (n+1) ms,i∈WC n (m::ms))->uw K F H ms vs (qv ρ (n+1) ms):=fun hs=>by
    refine ih (by simpa using hl) fun i hi=>?_
    obtain ⟨d,a,e1,e2,e3⟩:=h i (hs i hi)
    have q:=ux (Zm hi)
    refine ⟨d,a,e1,?_,e3⟩
    rw [show i - n=(i - (n+1))+1 by omega] at e2
    simpa using e2
   cases m with
   | val=>exact rest fun i hi=>hi
   | io=>
    obtain ⟨d,a,e1,e2,e3⟩:=h n (List.mem_cons.mpr (.inl rfl))
    refine ⟨⟨a,by simpa using e2,e3.1,?_⟩,rest fun i hi=>List.mem_cons_of_mem _ hi⟩
    rw [e1]
    exact e3.2
   | tk=>exact rest fun i hi=>hi
noncomputable def Fl.val:Fl->Option D
 | .nx=>some .non
 | .rt d=>some d
 | _=>none
noncomputable def ke (N:List Str) (ms:List PM) (f:Sl->Out (Fl×Sl)) (ds:List D):Out (D×List D):=match f (qw N ds) with
 | .ok (.nx,ρ)=>.ok (.non,qv ρ 0 ms)
 | .ok (.rt d,ρ)=>.ok (d,qv ρ 0 ms)
 | .ok _=>.bad
 | .exc c ρ=>.exc c ((qv ρ 0 ms).map some)
 | .bad=>.bad
theorem Vv:∀ (l:List D),(l.map some).map (fun x:Option D=>x.getD .non)=l
 | []=>rfl
 | a::l=>congrArg (a::·) (Vv l)
def Out.le {α:Type} (a b:Out α):Prop:=a=.bad\/a=b
theorem qaU {C:Ct} {N:List Str} {ms:List PM} {own':List Nat} {f:Sl->Out (Fl×Sl)} {F H:Hp} {vs:List V} {ds:List D} {Q:VK} {o:Out (D×List D)} (hio:C.io=WC 0 ms) (hox:C.ox=C.io) (hmr:C.mr=.sh\/∀ ρ,(f (qw N ds))≠.ok (.nx,ρ)) (hsub:∀ i∈WC 0 ms,i∈own') (sb:Same F H) (ar:ArgsIs C.K F H ms vs ds) (nd:(yT ms vs).Nodup)
  (hG:Out.le o (ke N ms f ds)) (h:PoG C.K C.cv ms C.mr vs F H Q C.E o):tSt C (jR 0 ms) own' f { nx:=fun _ H'=>Q .non H',rt:=Q } (ul N vs) H:=by
 refine ⟨F,qw N ds,UT sb ar nd,?_⟩
 have hl:=ar.length.1
 have ch:∀ {F' H'},Chg (OA (jR 0 ms) (ul N vs)) F H F' H'->Chg (LA ms vs) F H F' H':=fun c=>c.mono fun x z=>oa_start.mp z
 have outs:∀ {σ':St} {ρ':Sl} {F' H':Hp},XG C.K C.io F' H' σ' ρ'->(∀ i∈C.io,σ'[i]?=(ul N vs)[i]?)->uw C.K F' H' ms vs (qv ρ' 0 ms):=fun {σ' ρ' F' H'} io e=>by
  refine qaT (N:=N) (σ:=σ') hl fun i hi=>?_
  have hi':i∈C.io:=by rw [hio]; exact hi
  obtain ⟨d,a,e1,e2,e3⟩:=io i hi'
  refine ⟨d,a,e1,?_,e3⟩
  rw [e i hi'] at e2
  exact get_start.mp e2
 rcases hG with e | e
 ·subst e; exact h.elim
 ·subst e
  unfold ke at h
  cases q:f (qw N ds) with
  | ok p=>
   rw [q] at h
   obtain ⟨fl,ρ'⟩:=p
   cases fl with
   | nx=>
    have hm:C.mr=.sh:=hmr.resolve_right fun z=>z ρ' q
    exact fun σ' F' H' n=>h .non F' H' n.rep.sub (ch n.chg) (outs (n.rep.ioIs (by rw [hio]; exact hsub)) n.io) (by rw [hm]; exact .non)
   | rt d=>exact fun v σ' F' H' s io c e mo=>h v F' H' s (ch c) (outs io e) mo
   | bk=>exact h.elim
   | ct=>exact h.elim
  | exc c ρ'=>
   rw [q] at h
   exact fun F' H' s io c'=>h F' H' s (ch c') (by rw [Vv]; exact outs (σ':=ul N vs) (by rw [<-hox]; exact io) fun _ _=>rfl)
  | bad=>rw [q] at h; exact h.elim
def qeC (K:Frag) (cv:Str->Value) (E:XK) (ms:List PM) (mr:Mo):Ct:=⟨K,cv,E,WC 0 ms,mr,[],WC 0 ms,fun _ h=>h⟩
theorem qfa {P:Program} {w:World} {K:Frag} {mg:Str->Option Value} {base:Heap} {CX:CXT} {x qual:Str} {st:Stmt} {f:Addr} {fd:FuncData} {N ps:List Str} {k:Nat} {cv:Str->Value} {ms:List PM} {mr:Mo} {own':List Nat} {fb:Sl->Out (Fl×Sl)} {G:List D->Out (D×List D)}
  (F:Fun K x qual st f fd) (S:FnScope N ps (qf st)) (hl:ms.length=ps.length) (hsub:∀ i∈WC 0 ms,i∈own') (hmr:mr=.sh\/∀ ds ρ,(fb (qw N ds))≠.ok (.nx,ρ))
  (hbody:∀ (cdv:Value) (A:Around) (outer:List Env) (s:Shared) (H:Hp) (E:XK),Room k (A.deeper (envOfC qual (qf st) s.heap.objs.size f cdv)) ->
   PSs (qaA CX P w K mg base N qual (qf st) f cdv A outer s H E) (vD st) (tSt (qeC K cv E ms mr) (jR 0 ms) own' fb))
  (hG:∀ ds,Out.le (G ds) (ke N ms fb ds)):FnOk P w K mg base CX (k+1) f fd ps (spD K cv ms mr G):=by
 obtain ⟨oc,od,kV,doc,pm,an,cdv,ct,osl,rfl,lk,hcd⟩:=F.ex
 refine qep lk hcd S (fun vs H Q E h=>?_) fun A outer s H vs Q E hr hsp=>?_
 ·obtain ⟨F,ds,_,ar,_⟩:=h
  rw [ar.length.1,hl]
 ·obtain ⟨F1,ds,sb,ar,nd,h⟩:=hsp
  refine ⟨_,hbody cdv A outer s H E hr,?_⟩
  exact qaU (C:=qeC K cv E ms mr) rfl rfl (hmr.imp id fun z ρ=>z ds ρ) hsub sb ar nd (hG ds) h
noncomputable def QU:AK->PM
 | .vl=>.val
 | .sl _=>.io
 | .fr=>.tk
noncomputable def qB:List AK->List D->Sl->Option (List D)
 | [],[],_=>some []
 | .sl i::as,_::ds,ρ=>match ρ[i]? with
  | some (some d)=>(qB as ds ρ).map (d::·)
  | _=>none
 | .vl::as,d::ds,ρ=>(qB as ds ρ).map (d::·)
 | .fr::as,d::ds,ρ=>(qB as ds ρ).map (d::·)
 | _,_,_=>none
noncomputable def je:List AK->List D->Sl->Sl
 | .sl i::as,d::outs,ρ=>je as outs (ρ.set i (some d))
 | _::as,_::outs,ρ=>je as outs ρ
 | _,_,ρ=>ρ
noncomputable def jj:List AK->List Nat
 | []=>[]
 | .sl i::as=>i::jj as
 | _::as=>jj as
noncomputable def frA:List AK->Nat
 | []=>0
 | .fr::as=>frA as+1
 | _::as=>frA as
section
variable {K:Frag} {own:List Nat} {H0 F H:Hp} {σ:St} {ρ:Sl}
theorem uy:∀ {as:List AK} {vs:List V} {ds ds':List D},Rep K own F H σ ρ->(∀ i∈jj as,i∈own)->ArgV K H0 F H σ as vs ds->qB as ds ρ=some ds'->ArgsIs K F H (as.map QU) vs ds'
 | [],vs,ds,ds',rp,hs,av,e=>by
  cases vs <;> cases ds <;> first | exact av.elim | (simp [qB] at e; subst e; trivial)
 | a::as,[],ds,ds',rp,hs,av,e=>by cases a <;> exact av.elim
 | a::as,v::vs,[],ds',rp,hs,av,e=>by cases a <;> exact av.elim
 | .vl::as,v::vs,d::ds,ds',rp,hs,av,e=>by
  cases q:qB as ds ρ with
  | none=>simp [qB,q] at e
  | some l=>
   have e:d::l=ds':=by simpa [qB,q] using e
   subst e
   exact ⟨av.1,uy rp hs av.2 q⟩
 | .fr::as,v::vs,d::ds,ds',rp,hs,av,e=>by
  cases q:qB as ds ρ with
  | none=>simp [qB,q] at e
  | some l=>
   have e:d::l=ds':=by simpa [qB,q] using e
   subst e
   obtain ⟨a,h1,_,h2,h3⟩:=av.1
   exact ⟨⟨a,h1,h2,h3⟩,uy rp hs av.2 q⟩
 | .sl i::as,v::vs,d::ds,ds',rp,hs,av,e=>by
  obtain ⟨h1,_,av2⟩:=av
  have hi:i∈own:=hs i (List.mem_cons.mpr (.inl rfl))
  obtain ⟨d',hd⟩:=rp.opn i hi
  obtain ⟨a,e1,e2,e3⟩:=rp.ow i d' hi hd
  rw [h1] at e1
  cases e1
  cases q:qB as ds ρ with
  | none=>simp [qB,q,hd] at e
  | some l=>
   have e:d'::l=ds':=by simpa [qB,q,hd] using e
   subst e
   exact ⟨⟨a,rfl,e2,e3⟩,uy rp (fun j hj=>hs j (List.mem_cons_of_mem _ hj)) av2 q⟩
theorem kB:∀ {as:List AK} {vs:List V} {ds:List D} {b:Addr},ArgV K H0 F H σ as vs ds->b∈yT (as.map QU) vs->(∃ i∈jj as,σ[i]?=some (some (V.ref b)))\/(H0 b=none/\frA as≠0/\H b≠none/\F b=none)
 | [],vs,ds,b,av,h=>by cases vs <;> simp [yT] at h
 | a::as,[],ds,b,av,h=>by cases a <;> exact av.elim
 | a::as,v::vs,[],b,av,h=>by cases a <;> exact av.elim
 | .vl::as,v::vs,d::ds,b,av,h=>by
  have h:b∈yT (as.map QU) vs:=by cases v <;> exact h
  exact kB (as:=as) av.2 h
 | .fr::as,v::vs,d::ds,b,av,h=>by
  obtain ⟨⟨a,rfl,h0,hF,o⟩,av2⟩:=av
  have h:b∈a::yT (as.map QU) vs:=h
  rcases List.mem_cons.mp h with e | h
  ·subst e; exact .inr ⟨h0,by simp [frA],o.there,hF⟩
  ·rcases kB av2 h with z | ⟨z,_,z2⟩
   ·exact .inl z
   ·exact .inr ⟨z,by simp [frA],z2⟩
 | .sl i::as,v::vs,d::ds,b,av,h=>by
  obtain ⟨h1,_,av2⟩:=av
  have up:b∈yT (as.map QU) vs->(∃ j∈jj (.sl i::as),σ[j]?=some (some (V.ref b)))\/(H0 b=none/\frA (.sl i::as)≠0/\H b≠none/\F b=none):=fun h=>by
   rcases kB av2 h with ⟨j,hj,e⟩ | z
   ·exact .inl ⟨j,List.mem_cons_of_mem _ hj,e⟩
   ·exact .inr z
  cases v with
  | ref a=>
   have h:b∈a::yT (as.map QU) vs:=h
   rcases List.mem_cons.mp h with e | h
   ·subst e; exact .inl ⟨i,List.mem_cons.mpr (.inl rfl),h1⟩
   ·exact up h
  | _=>exact up h
theorem wE:∀ {as:List AK} {vs:List V} {ds:List D},Rep K own F H σ ρ->(∀ x,OA own σ x->H0 x≠none)->(∀ i∈jj as,i∈own)->(jj as).Nodup->frA as<=1->ArgV K H0 F H σ as vs ds->(yT (as.map QU) vs).Nodup
 | [],vs,ds,rp,h0,hs,nd,hf,av=>by cases vs <;> simp [yT]
 | a::as,[],ds,rp,h0,hs,nd,hf,av=>by cases a <;> exact av.elim
 | a::as,v::vs,[],rp,h0,hs,nd,hf,av=>by cases a <;> exact av.elim
 | .vl::as,v::vs,d::ds,rp,h0,hs,nd,hf,av=>by
  have q:=wE (as:=as) rp h0 hs nd hf av.2
  cases v <;> exact q
 | .fr::as,v::vs,d::ds,rp,h0,hs,nd,hf,av=>by
  have hf':frA as=0:=by simp only [frA] at hf; omega
  obtain ⟨⟨a,rfl,hz,hF,o⟩,av2⟩:=av
  show (a::yT (as.map QU) vs).Nodup
  refine List.nodup_cons.mpr ⟨fun z=>?_,wE rp h0 hs nd (by omega) av2⟩
  rcases kB av2 z with ⟨i,hi,e⟩ | ⟨_,n,_⟩
  ·exact h0 a ⟨i,hs i hi,e⟩ hz
  ·exact n hf'
 | .sl i::as,v::vs,d::ds,rp,h0,hs,nd,hf,av=>by
  obtain ⟨h1,_,av2⟩:=av
  have hs':∀ j∈jj as,j∈own:=fun j hj=>hs j (List.mem_cons_of_mem _ hj)
  have hi:i∈own:=hs i (List.mem_cons.mpr (.inl rfl))
  obtain ⟨ni,nd'⟩:=List.nodup_cons.mp nd
  have q:=wE rp h0 hs' nd' hf av2
  cases v with
  | ref a=>
   show (a::yT (as.map QU) vs).Nodup
   refine List.nodup_cons.mpr ⟨fun z=>?_,q⟩
   rcases kB av2 z with ⟨j,hj,e⟩ | ⟨n,_⟩
   ·exact ni (by rw [rp.dis i j a hi (hs' j hj) h1 e]; exact hj)
   ·exact h0 a ⟨i,hi,h1⟩ n
  | _=>exact q
theorem vE:∀ {as:List AK} {outs:List D} {ρ:Sl} {i:Nat},i∉jj as->(je as outs ρ)[i]?=ρ[i]?
 | [],outs,ρ,i,h=>by cases outs <;> rfl
 | a::as,[],ρ,i,h=>by cases a <;> rfl
 | .vl::as,d::outs,ρ,i,h=>vE (as:=as) h
 | .fr::as,d::outs,ρ,i,h=>vE (as:=as) h
 | .sl j::as,d::outs,ρ,i,h=>by
  have h':i≠j/\i∉jj as:=by simpa [jj] using h
  show (je as outs (ρ.set j (some d)))[i]?=_
  rw [vE h'.2,List.getElem?_set_ne (Ne.symm h'.1)]
theorem xb:∀ {as:List AK} {outs:List D} {ρ:Sl},(je as outs ρ).length=ρ.length
 | [],outs,ρ=>by cases outs <;> rfl
 | a::as,[],ρ=>by cases a <;> rfl
 | .vl::as,d::outs,ρ=>xb (as:=as)
 | .fr::as,d::outs,ρ=>xb (as:=as)
 | .sl j::as,d::outs,ρ=>by
  show (je as outs (ρ.set j (some d))).length=_
  rw [xb,List.length_set]
theorem gz {F' H':Hp}:∀ {as:List AK} {vs:List V} {ds outs:List D} {ρ:Sl},(jj as).Nodup->(∀ i∈jj as,i < ρ.length)->ArgV K H0 F H σ as vs ds->uw K F' H' (as.map QU) vs outs->∀ i∈jj as,∃ d a,(je as outs ρ)[i]?=some (some d)/\σ[i]?=some (some (V.ref a))/\F' a=none/\OwnIs K F' H' a d
 | [],vs,ds,outs,ρ,nd,hl,av,o,i,hi=>by simp [jj] at hi
 | a::as,[],ds,outs,ρ,nd,hl,av,o,i,hi=>by cases a <;> exact av.elim
 | a::as,v::vs,[],outs,ρ,nd,hl,av,o,i,hi=>by cases a <;> exact av.elim
 | a::as,v::vs,d::ds,[],ρ,nd,hl,av,o,i,hi=>by cases a <;> exact o.elim
 | .vl::as,v::vs,d::ds,u::outs,ρ,nd,hl,av,o,i,hi=>gz (as:=as) nd hl av.2 o i hi
 | .fr::as,v::vs,d::ds,u::outs,ρ,nd,hl,av,o,i,hi=>gz (as:=as) nd hl av.2 o i hi
 | .sl j::as,v::vs,d::ds,u::outs,ρ,nd,hl,av,o,i,hi=>by
  obtain ⟨ni,nd'⟩:=List.nodup_cons.mp nd
  obtain ⟨h1,_,av2⟩:=av
  obtain ⟨⟨a,e,hF,ow⟩,o2⟩:=o
  subst e
  rcases List.mem_cons.mp hi with e | hi
  ·subst e
   refine ⟨u,a,?_,h1,hF,ow⟩
   show (je as outs (ρ.set i (some u)))[i]?=_
   rw [vE ni,List.getElem?_set_self (hl i (List.mem_cons.mpr (.inl rfl)))]
  ·exact gz (as:=as) (ρ:=ρ.set j (some u)) nd' (fun k hk=>by rw [List.length_set]; exact hl k (List.mem_cons_of_mem _ hk)) av2 o2 i hi
end
noncomputable def qt (as:List AK) (G:List D->Out (D×List D)) (fr:Sl->Out (List D×Sl)):Sl->Out (D×Sl):=fun ρ=>(fr ρ).bind fun p=>match qB as p.1 p.2 with
 | some ds=>match G ds with
  | .ok q=>.ok (q.1,je as q.2 p.2)
  | .exc c o=>.exc c (je as (o.map (·.getD .non)) p.2)
  | .bad=>.bad
 | none=>.bad
section
variable {X:Cx} {C:Ct} {own:List Nat} {as:List AK} {G:List D->Out (D×List D)} {fr:Sl->Out (List D×Sl)} {mr:Mo} {e:Expr} {es:List Expr}
theorem Vw {σ:St} {H0 F H F' H':Hp} {ρ:Sl} {vs:List V} {ds outs:List D} (rp:Rep C.K own F H σ ρ) (h0:∀ x,OA own σ x->H0 x≠none) (hs:∀ i∈jj as,i∈own) (nd:(jj as).Nodup) (av:ArgV C.K H0 F H σ as vs ds)
  (sb:Same F' H') (c:Chg (LA (as.map QU) vs) F H F' H') (o:uw C.K F' H' (as.map QU) vs outs):Rep C.K own F' H' σ (je as outs ρ):=by
 have pin:=gz (ρ:=ρ) nd (fun i hi=>by
  obtain ⟨d,e⟩:=rp.opn i (hs i hi)
  exact (List.getElem?_eq_some_iff.mp e).1) av o
 refine ⟨sb,by rw [xb]; exact rp.len,fun i d hi e=>?_,fun i d hi e=>?_,fun i hi=>?_,rp.dis⟩
 ·rw [vE (fun z=>hi (hs i z))] at e
  obtain ⟨v,h1,h2⟩:=rp.val i d hi e
  exact ⟨v,h1,h2.mono c.grow⟩
 ·by_cases q:i∈jj as
  ·obtain ⟨d',a,e1,e2,e3,e4⟩:=pin i q
   rw [e1] at e
   cases e
   exact ⟨a,e2,e3,e4⟩
  ·rw [vE q] at e
   obtain ⟨a,h1,h2,h3⟩:=rp.ow i d hi e
   have nl:¬LA (as.map QU) vs a:=fun z=>by
    rcases kB av z with ⟨j,hj,e'⟩ | ⟨n,_⟩
    ·exact q (by rw [rp.dis i j a hi (hs j hj) h1 e']; exact hj)
    ·exact h0 a ⟨i,hi,h1⟩ n
   refine ⟨a,h1,?_,h3.grow c.grow fun o' q'=>c.keep a o' q' nl⟩
   cases q':F' a with
   | none=>rfl
   | some u=>
    rcases c.new a (by rw [q']; simp) with z | z | z
    ·exact absurd h2 z
    ·exact absurd z h3.there
    ·exact absurd z nl
 ·by_cases q:i∈jj as
  ·obtain ⟨d',a,e1,_⟩:=pin i q
   exact ⟨d',e1⟩
  ·rw [vE q]
   exact rp.opn i hi
theorem qaV {σ:St} {H:Hp} {Q:VK} (hio:∀ i∈C.ox,i∈own) (hs:∀ i∈jj as,i∈own) (nd:(jj as).Nodup) (hf:frA as<=1) (h:tE C own mr (qt as G fr) σ H Q) :
  tAr C own as fr σ H fun vs H1=>spD C.K C.cv (as.map QU) mr G (vs++[]) H1 Q C.E:=by
 obtain ⟨F,ρ,rp,h⟩:=h
 have h0:∀ x,OA own σ x->H x≠none:=fun x z=>(rp.OA_there z).1
 refine ⟨F,ρ,rp,?_⟩
 unfold qt at h
 cases q0:fr ρ with
 | ok p=>
  rw [q0] at h
  obtain ⟨ds,ρ1⟩:=p
  intro vs F1 H1 rp1 c1 av
  rw [List.append_nil]
  have h1:Po C own mr σ F H (match qB as ds ρ1 with | some ds=>(match G ds with | .ok q=>.ok (q.1,je as q.2 ρ1) | .exc c o=>.exc c (je as (o.map (·.getD .non)) ρ1) | .bad=>.bad) | none=>.bad) Q:=h
  cases q:qB as ds ρ1 with
  | none=>simp only [q] at h1; exact h1.elim
  | some ds'=>
   simp only [q] at h1
   have lo:∀ x,LA (as.map QU) vs x->OA own σ x\/H x=none:=fun x z=>by
    rcases kB av z with ⟨i,hi,e⟩ | ⟨n,_⟩
    ·exact .inl ⟨i,hs i hi,e⟩
    ·exact .inr n
   refine ⟨F1,ds',rp1.sub,uy rp1 hs av q,wE rp1 h0 hs nd hf av,?_⟩
   cases q2:G ds' with
   | ok p=>
    rw [q2] at h1
    obtain ⟨d,outs⟩:=p
    exact fun v F' H' sb c o mo=>h1 v F' H' (Vw rp1 h0 hs nd av sb c o) (c1.trans c lo) (MoIs.back (Ha:=H1) c1 mo)
   | exc x o=>rw [q2] at h1; exact fun F' H' sb c outs=>h1 F' H' sb ((Vw rp1 h0 hs nd av sb c outs).ioIs hio) (c1.trans c lo)
   | bad=>rw [q2] at h1; exact h1.elim
 | exc c=>rw [q0] at h; exact h
 | bad=>rw [q0] at h; exact h.elim
theorem qaW {CX:CXT} {k:Nat} {f:Addr} {fd:FuncData} {ps:List Str} {x:Str} {p pos:Pos} {ms:List PM} (F:FnOk X.prog X.w X.K X.mg X.base CX k f fd ps (spD C.K C.cv ms mr G)) (hr:Room k X.A) (hg:Gl X x) (hm:X.mg x=some (.ref f)) (hk:keepIn X.K (.ref f)=true) (hb:Binds X.K fd ps []) (hx:zU CX X C.E)
  (ha:PA X (e::es) (tAr C own as fr)) (hms:ms=as.map QU:=by rfl) (hs:∀ i∈jj as,i∈own:=by decide) (nd:(jj as).Nodup:=by decide) (hf:frA as<=1:=by decide) (hio:∀ i∈C.ox,i∈own:=by exact xz rfl) (hdb:(x == ("__debug__":Str))=false:=by decide) (he:starEach (e::es) X.env=(false,eval e X.env)::starEach es X.env:=by exact kw rfl)
  (hpl:(backTo pos (starEach es X.env)).any (·.1)=false:=by exact gq rfl):PE X (.Call (.Name x p) (e::es) [] pos) (tE C own mr (qt as G fr)):=by
 subst hms
 exact jw (qaz F hr hg hm hk hb .nil hx ha hdb he hpl) fun σ H Q h=>qaV hio hs nd hf h
end
structure ItIs (K:Frag) (F:Hp) (J:It) (ds:List D):Prop where
 go:∀ i H,i < ds.length->Same F H->J.go i H
 yld:∀ i Fi H x H' d,ds[i]?=some d->Same F Fi->Same Fi H->J.yld i H x H'->∃ F',Chg No Fi H F' H'/\Same F' H'/\Is K F' x d
 stop:∀ i H,ds.length<=i->Same F H->J.stop i H
def PoI (C:Ct) (own:List Nat) (σ:St) (F H:Hp) (r:Out (List D×Sl)) (R:It->Hp->Prop):Prop:=match r with
 | .ok (ds,ρ')=>∀ J F' H',Rep C.K own F' H' σ ρ'->Chg (OA own σ) F H F' H'->ItIs C.K F' J ds->R J H'
 | .exc c ρ'=>∀ F' H',Same F' H'->XG C.K C.ox F' H' σ ρ'->Chg (OA own σ) F H F' H'->C.E (C.cv c) none H'
 | .bad=>False
def tIt (C:Ct) (own:List Nat) (f:Sl->Out (List D×Sl)):TI:=fun σ H R=>∃ F ρ,Rep C.K own F H σ ρ/\PoI C own σ F H (f ρ) R
noncomputable def qcJ:D->Out (List D)
 | .lst xs=>.ok xs
 | .tup xs=>.ok xs
 | _=>.bad
noncomputable def qfP (f:Sl->Out (D×Sl)):Sl->Out (List D×Sl):=fun ρ=>(f ρ).bind fun p=>(qcJ p.1).bind fun ds=>.ok (ds,p.2)
theorem PoI.bindV {C:Ct} {own:List Nat} {m:Mo} {σ:St} {F H:Hp} {o:Out (D×Sl)} {k:D×Sl->Out (List D×Sl)} {Q:It->Hp->Prop} {R:VK} (hp:PoI C own σ F H (o.bind k) Q)
  (h:∀ v F1 H1 d ρ1,Rep C.K own F1 H1 σ ρ1->Chg (OA own σ) F H F1 H1->MoIs C.K m H F1 H1 v d->PoI C own σ F H (k (d,ρ1)) Q->R v H1):Po C own m σ F H o R:=by
 cases o with
 | ok p=>exact fun v F1 H1 rp c mo=>h v F1 H1 p.1 p.2 rp c mo hp
 | exc x=>exact hp
 | bad=>exact hp.elim
section
variable {X:Cx} {C:Ct} {own:List Nat} {tg e:Expr} {f:Sl->Out (D×Sl)} {m:Mo} {pos:Pos}
theorem qaX {t t':TI} (h:PI X tg e t) (i:∀ σ H Q,t' σ H Q->t σ H Q):PI X tg e t':=⟨fun pins s σ H R I hw=>h pins s σ H R I (i σ H R hw)⟩
theorem qcK {K:Frag} {F:Hp} {a:Addr} {xs:List V} {ds:List D} (p:SqL K F a xs) (t:IsL K F xs ds):ItIs K F (Itl K a) ds where
 go:=fun i H hi s=>by
  have hx:i < xs.length:=by rw [t.length]; exact hi
  exact ⟨xs,xs[i],s.seq p,by simp [hx]⟩
 yld:=fun i Fi H x H' d e s1 s2 y=>by
  obtain ⟨rfl,y⟩:=y
  obtain ⟨v,h1,h2⟩:=t.getD e
  have q:=y xs ((s1.trans s2).seq p)
  rw [h1] at q
  cases q
  exact ⟨Fi,.refl,s2,h2.mono s1⟩
 stop:=fun i H hi s=>⟨xs,s.seq p,by rw [t.length]; exact hi⟩
theorem qcL {K:Frag} {F:Hp} {a:Addr} {xs:List V} {ds:List D} (p:SqT K F a xs) (t:IsL K F xs ds):ItIs K F (Itt K a) ds where
 go:=fun i H hi s=>by
  have hx:i < xs.length:=by rw [t.length]; exact hi
  exact ⟨xs,xs[i],qF s p,by simp [hx]⟩
 yld:=fun i Fi H x H' d e s1 s2 y=>by
  obtain ⟨rfl,y⟩:=y
  obtain ⟨v,h1,h2⟩:=t.getD e
  have q:=y xs (qF (s1.trans s2) p)
  rw [h1] at q
  cases q
  exact ⟨Fi,.refl,s2,h2.mono s1⟩
 stop:=fun i H hi s=>⟨xs,qF s p,by rw [t.length]; exact hi⟩
noncomputable def xc (lo:Int) (n:Nat):List D:=(List.range n).map fun k=>.int (lo+(k:Nat))
theorem qcM {K:Frag} {F:Hp} {lo:Int} {n:Nat}:ItIs K F (Itr lo n) (xc lo n) where
 go:=fun i H hi _=>by
  have:i < n:=by simpa [xc] using hi
  exact this
 yld:=fun i Fi H x H' d e s1 s2 y=>by
  obtain ⟨rfl,rfl⟩:=y
  have e:d=.int (lo+i):=by
   unfold xc at e
   rw [List.getElem?_map] at e
   cases q:(List.range n)[i]? with
   | none=>rw [q] at e; cases e
   | some k=>
    rw [q] at e
    have hk:k=i:=by
     have:=List.getElem?_eq_some_iff.mp q
     obtain ⟨_,z⟩:=this
     simpa using z.symm
    subst hk
    exact (Option.some.inj e).symm
  subst e
  exact ⟨Fi,.refl,s2,.int _⟩
 stop:=fun i H hi _=>by
  have:n<=i:=by simpa [xc] using hi
  exact this
noncomputable def jH (f:Sl->Out (D×Sl)):Sl->Out (List D×Sl):=fun ρ=>(f ρ).bind fun p=>match p.1 with
 | .int j=>if -(2 ^ 62)<=j/\j < 2 ^ 62 then .ok (xc 0 j.toNat,p.2) else .bad
 | _=>.bad
theorem vn {p:Pos} (hg:Gl X "range") (hm:X.mg "range"=none) (h:PE X e (tE C own m f)) (hs:starEach [e] X.env=[(false,eval e X.env)]:=by exact qU rfl):PI X tg (.Call (.Name "range" p) [e] [] pos) (tIt C own (jH f)):=by
 refine qaX (Ul hg hm (qY h jM hs) hs) fun σ H R ⟨F,ρ,rp,h⟩=>⟨F,ρ,rp,PoI.bindV h fun v F1 H1 d ρ1 rp1 c1 mo1 h1=>?_⟩
 cases d with
 | int j=>
  obtain rfl:=mo1.top.int
  have h1:PoI C own σ F H (if -(2 ^ 62)<=j/\j < 2 ^ 62 then .ok (xc 0 j.toNat,ρ1) else .bad) R:=h1
  by_cases z:-(2 ^ 62)<=j/\j < 2 ^ 62
  ·rw [if_pos z] at h1
   exact ⟨j,rfl,z.1,z.2,h1 _ F1 H1 rp1 c1 qcM⟩
  ·rw [if_neg z] at h1; exact h1.elim
 | _=>exact h1.elim
def tGd (C:Ct) (own:List Nat) (g:D->Sl->Out Sl):TG:=fun v σ H Q=>∃ F ρ d,Rep C.K own F H σ ρ/\Is C.K F v d/\∃ ρ',g d ρ=.ok ρ'/\∀ σ',Rep C.K own F H σ' ρ'->(∀ b,OA own σ' b->OA own σ b)->(∀ i∈C.io,σ'[i]?=σ[i]?)->Q σ' H
def qdN (C:Ct) (own:List Nat) (g:List D->Sl->Out Sl):TGs:=fun vs σ H Q=>∃ F ρ ds,Rep C.K own F H σ ρ/\IsL C.K F vs ds/\∃ ρ',g ds ρ=.ok ρ'/\∀ σ',Rep C.K own F H σ' ρ'->(∀ b,OA own σ' b->OA own σ b)->(∀ i∈C.io,σ'[i]?=σ[i]?)->Q σ' H
theorem qcN {t t':TG} (h:PG X e t) (i:∀ v σ H Q,t' v σ H Q->t v σ H Q):PG X e t':=⟨fun pins s σ H v u Q I r hw=>h pins s σ H v u Q I r (i v σ H Q hw)⟩
theorem GQ {es:List Expr} {t t':TGs} (h:PGs X es t) (i:∀ v σ H Q,t' v σ H Q->t v σ H Q):PGs X es t':=⟨fun pins s σ H v u Q I r hw=>h pins s σ H v u Q I r (i v σ H Q hw)⟩
noncomputable def gNm (i:Nat):D->Sl->Out Sl:=fun d ρ=>if i < ρ.length then .ok (ρ.set i (some d)) else .bad
theorem zV {own:List Nat} {i:Nat} (h:i∉own):vY own [i]=own:=by
 unfold vY
 rw [List.filter_eq_self]
 intro j hj
 simp only [List.mem_singleton,decide_eq_true_eq]
 exact fun z=>h (by rw [<-z]; exact hj)
theorem qu {i:Nat} {x:Str} (hN:X.N.Nodup) (hi:X.N[i]?=some x) (hx:Loc X.env.scope x) (ho:i∉own:=by decide) (hio:i∉C.io:=by exact Vj rfl) (hf:X.fn x=true\/X.env.scope.names.lookup x=some .local:=by first | exact .inl rfl | exact .inr rfl):PG X (.Name x pos) (tGd C own (gNm i)):=by
 refine qcN (qas hN hi hx hf) fun v σ H Q ⟨F,ρ,d,rp,is,ρ',e,k⟩=>?_
 unfold gNm at e
 by_cases z:i < ρ.length
 ·rw [if_pos z] at e
  cases e
  have r2:=rp.put z is
  rw [zV ho] at r2
  refine k _ r2 (fun b q=>?_) fun j hj=>List.getElem?_set_ne fun q=>hio (by rw [q]; exact hj)
  have q':OA (vY own [i]) (σ.set i (some v)) b:=by rw [zV ho]; exact q
  exact q'.put
 ·rw [if_neg z] at e; cases e
noncomputable def jt:List D->Sl->Out Sl
 | [],ρ=>.ok ρ
 | _::_,_=>.bad
noncomputable def qx (g:D->Sl->Out Sl) (gs:List D->Sl->Out Sl):List D->Sl->Out Sl
 | d::ds,ρ=>(g d ρ).bind fun ρ1=>gs ds ρ1
 | [],_=>.bad
theorem jU:PGs X [] (qdN C own jt):=by
 refine GQ qat fun vs σ H Q ⟨F,ρ,ds,rp,is,ρ',e,k⟩=>?_
 cases is with
 | nil=>cases e; exact ⟨rfl,k σ rp (fun _ z=>z) fun _ _=>rfl⟩
 | cons _ _=>cases e
theorem qG {es:List Expr} {g:D->Sl->Out Sl} {gs:List D->Sl->Out Sl} (h1:PG X e (tGd C own g)) (h2:PGs X es (qdN C own gs)) (hs:(assignEach (e::es) X.env).map (·.2)=assign e X.env::(assignEach es X.env).map (·.2):=by rfl):PGs X (e::es) (qdN C own (qx g gs)):=by
 refine GQ (XO h1 h2 hs) fun vs σ H Q ⟨F,ρ,ds,rp,is,ρ',e,k⟩=>?_
 cases is with
 | nil=>cases e
 | @cons v d vs ds a t=>
  have e:(g d ρ).bind (fun ρ1=>gs ds ρ1)=.ok ρ':=e
  cases q:g d ρ with
  | ok ρ1=>
   rw [q] at e
   exact ⟨v,vs,rfl,F,ρ,d,rp,a,ρ1,q,fun σ1 rp1 oa1 io1=>⟨F,ρ1,ds,rp1,t,ρ',e,fun σ2 rp2 oa2 io2=>k σ2 rp2 (fun b z=>oa1 b (oa2 b z)) fun i hi=>(io2 i hi).trans (io1 i hi)⟩⟩
  | exc c=>rw [q] at e; cases e
  | bad=>rw [q] at e; cases e
noncomputable def ju (n:Nat) (gs:List D->Sl->Out Sl):D->Sl->Out Sl
 | .tup ds,ρ=>if ds.length=n then gs ds ρ else .bad
 | _,_=>.bad
theorem vb {es:List Expr} {k n:Nat} {gs:List D->Sl->Out Sl} (hK:C.K=X.K) (hc:X.calm=true) (h:PGs X es (qdN C own gs)) (hn:(assignEach es X.env).length=n:=by rfl) (hst:(assignEach es X.env).findIdx? (·.1)=none:=by rfl):PG X (.Tuple es k pos) (tGd C own (ju n gs)):=by
 refine qcN (qcc hc h hn hst) fun v σ H Q ⟨F,ρ,d,rp,is,ρ',e,k⟩=>?_
 cases is with
 | @tup a xs ds p t=>
  have e:(if ds.length=n then gs ds ρ else .bad)=.ok ρ':=e
  by_cases z:ds.length=n
  ·rw [if_pos z] at e
   exact ⟨a,xs,rfl,by rw [<-hK]; exact qF rp.sub p,by rw [t.length]; exact z,F,ρ,ds,rp,t,ρ',e,k⟩
  ·rw [if_neg z] at e; cases e
 | _=>cases e
noncomputable def qeD (fe:Sl->Out (D×Sl)) (g:D->Sl->Out Sl):Sl->Out (Fl×Sl):=fun ρ=>(fe ρ).bind fun p=>match g p.1 p.2 with
 | .ok ρ'=>.ok (.nx,ρ')
 | _=>.bad
theorem qaY {g:D->Sl->Out Sl} (he:PE X e (tE C own m f)) (hg:PG X tg (tGd C own g)) (hm:m≠.any:=by decide) (hs:swapsWithSole [tg] e pos.line X.env=pure false:=by rfl) (hw:swappedStores [tg] e X.env=pure none:=by rfl)
  (h1:(assignEach [tg] X.env).map (·.2)=[assign tg X.env]:=by rfl):PS X (.Assign [tg] e pos) (tSt C own own (qeD f g)):=by
 refine zG (GI (uc he hm) hg hs hw h1) fun D σ H ⟨F,ρ,rp,h⟩=>⟨F,ρ,rp,PoS.bindE h fun v F1 H1 d ρ1 rp1 c1 mo1 h1=>?_⟩
 cases q:g d ρ1 with
 | ok ρ'=>
  simp only [q] at h1
  exact ⟨F1,ρ1,d,rp1,mo1,ρ',q,fun σ' rp' oa io=>h1 σ' F1 H1 ⟨rp',.refl,fun b z=>.inl (oa b z),io⟩⟩
 | exc c=>simp only [q] at h1; exact h1.elim
 | bad=>simp only [q] at h1; exact h1.elim
noncomputable def vc (g:D->Sl->Out Sl) (fb:Sl->Out (Fl×Sl)):List D->Sl->Out (Fl×Sl)
 | [],ρ=>.ok (.nx,ρ)
 | d::ds,ρ=>(g d ρ).plain.bind fun ρ1=>(fb ρ1).bind fun p=>match p.1 with
  | .nx=>vc g fb ds p.2
  | .ct=>vc g fb ds p.2
  | .bk=>.ok (.nx,p.2)
  | .rt v=>.ok (.rt v,p.2)
noncomputable def QV (fi:Sl->Out (List D×Sl)) (g:D->Sl->Out Sl) (fb:Sl->Out (Fl×Sl)):Sl->Out (Fl×Sl):=fun ρ=>(fi ρ).bind fun p=>vc g fb p.1 p.2
theorem kf {iter:Expr} {body:List Stmt} {fi:Sl->Out (List D×Sl)} {g:D->Sl->Out Sl} {fb:Sl->Out (Fl×Sl)} (hp:PassesOwn (model X.prog X.w) X.A X.env X.xe) (hc:X.calm=true) (hi:PI X tg iter (tIt C own fi)) (hg:PG X tg (tGd C own g))
  (hb:PSs X body (tSt { C with ol:=own } own own fb)) (hs:∀ x,foldedSetIterable iter X.env x=pure x:=by intro _; rfl):PS X (.For tg iter body [] pos) (tSt C own own (QV fi g fb)):=by
 refine zG (qcf hp hc hi hg hb hs) fun D σ H ⟨F,ρ,rp,h⟩=>⟨F,ρ,rp,?_⟩
 unfold QV at h
 cases q0:fi ρ with
 | exc c=>rw [q0] at h; exact h
 | bad=>rw [q0] at h; exact h.elim
 | ok p=>
  rw [q0] at h
  obtain ⟨ds,ρ1⟩:=p
  intro J F1 H1 rp1 c1 it
  have h:PoS C own own σ F H (vc g fb ds ρ1) D:=h
  refine ⟨fun i m σ' H'=>m=ds.length - i/\i<=ds.length/\∃ F' ρ',Nx C own own σ F H ρ' σ' F' H'/\Same F1 F'/\PoS C own own σ' F' H' (vc g fb (ds.drop i) ρ') D,⟨ds.length,by simp,Nat.zero_le _,F1,ρ1,.ofE rp1 c1,Same.refl _,h.shift (.ofE rp1 c1)⟩,?_⟩
  rintro i m σ' H' ⟨rfl,hle,F',ρ',nx,gr,po⟩
  by_cases hlt:i < ds.length
  ·have hd:ds.drop i=ds[i]::ds.drop (i+1):=List.drop_eq_getElem_cons hlt
   rw [hd] at po
   have po:PoS C own own σ' F' H' ((g ds[i] ρ').plain.bind fun ρ1=>(fb ρ1).bind fun p=>match p.1 with | .nx=>vc g fb (ds.drop (i+1)) p.2 | .ct=>vc g fb (ds.drop (i+1)) p.2 | .bk=>.ok (.nx,p.2) | .rt v=>.ok (.rt v,p.2)) D:=po
   refine .inr ⟨it.go i H' hlt (gr.trans nx.rep.sub),fun σ2 H2=>ds.length - (i+1)=ds.length - (i+1)/\i+1<=ds.length/\∃ F' ρ',Nx C own own σ F H ρ' σ2 F' H2/\Same F1 F'/\PoS C own own σ2 F' H2 (vc g fb (ds.drop (i+1)) ρ') D,fun σ2 H2 q=>⟨ds.length - (i+1),by omega,q⟩,fun x H2 y=>?_⟩
   obtain ⟨F2,c2,s2,is2⟩:=it.yld i F' H' x H2 ds[i] (by simp [hlt]) gr nx.rep.sub y
   cases q1:g ds[i] ρ' with
   | exc c=>rw [q1] at po; exact po.elim
   | bad=>rw [q1] at po; exact po.elim
   | ok ρ2=>
    rw [q1] at po
    refine ⟨F2,ρ',ds[i],nx.rep.grow c2 s2,is2,ρ2,q1,fun σ3 rp3 oa3 io3=>⟨F2,ρ2,rp3,?_⟩⟩
    have n3:Nx C own own σ' F' H' ρ2 σ3 F2 H2:=⟨rp3,c2.ofNo,fun b z=>.inl (oa3 b z),io3⟩
    have po3:=PoS.shift (show PoS C own own σ' F' H' ((fb ρ2).bind fun p=>match p.1 with | .nx=>vc g fb (ds.drop (i+1)) p.2 | .ct=>vc g fb (ds.drop (i+1)) p.2 | .bk=>.ok (.nx,p.2) | .rt v=>.ok (.rt v,p.2)) D from po) n3
    have up:∀ {ρ4 σ4 F4 H4},Nx { C with ol:=own } own own σ3 F2 H2 ρ4 σ4 F4 H4->Nx C own own σ3 F2 H2 ρ4 σ4 F4 H4:=fun z=>⟨z.rep,z.chg,z.oa,z.io⟩
    cases q2:fb ρ2 with
    | exc c=>rw [q2] at po3; exact po3
    | bad=>rw [q2] at po3; exact po3.elim
    | ok p=>
     rw [q2] at po3
     obtain ⟨fl,ρ4⟩:=p
     cases fl with
     | nx=>exact fun σ4 F4 H4 n4=>⟨rfl,hlt,F4,ρ4,(nx.then n3).then (up n4),(gr.trans c2.grow).trans n4.chg.grow,PoS.shift (show PoS C own own σ3 F2 H2 (vc g fb (ds.drop (i+1)) ρ4) D from po3) (up n4)⟩
     | ct=>exact fun σ4 F4 H4 n4=>⟨rfl,hlt,F4,ρ4,(nx.then n3).then (up n4),(gr.trans c2.grow).trans n4.chg.grow,PoS.shift (show PoS C own own σ3 F2 H2 (vc g fb (ds.drop (i+1)) ρ4) D from po3) (up n4)⟩
     | bk=>exact fun σ4 F4 H4 n4=>po3 σ4 F4 H4 (up n4)
     | rt d=>exact fun v σ4 F4 H4 s io c e mo=>po3 v σ4 F4 H4 s io c e mo
  ·have e:i=ds.length:=by omega
   subst e
   rw [List.drop_length] at po
   exact .inl ⟨it.stop _ H' (Nat.le_refl _) (gr.trans nx.rep.sub),po σ' F' H' (.refl nx.rep)⟩
noncomputable def jO (ft:Sl->Out (Bool×Sl)) (fb:Sl->Out (Fl×Sl)):Nat->Sl->Out (Fl×Sl)
 | 0,_=>.bad
 | n+1,ρ=>(ft ρ).bind fun q=>if q.1=true then (fb q.2).bind fun p=>match p.1 with
  | .nx=>jO ft fb n p.2
  | .ct=>jO ft fb n p.2
  | .bk=>.ok (.nx,p.2)
  | .rt v=>.ok (.rt v,p.2)
  else .ok (.nx,q.2)
theorem UU {t:Expr} {body:List Stmt} {ft:Sl->Out (Bool×Sl)} {fb:Sl->Out (Fl×Sl)} (n:Nat) (hp:PassesOwn (model X.prog X.w) X.A X.env X.xe) (ht:PT X t (tT C own ft)) (hb:PSs X body (tSt { C with ol:=own } own own fb)) :
  PS X (.While t body [] pos) (tSt C own own (jO ft fb n)):=by
 refine zG (XQ hp ht hb) fun D σ H ⟨F,ρ,rp,h⟩=>?_
 refine ⟨fun m σ' H'=>∃ F' ρ',Rep C.K own F' H' σ' ρ'/\PoS C own own σ' F' H' (jO ft fb m ρ') D,⟨n,F,ρ,rp,h⟩,?_⟩
 rintro m σ1 H1 ⟨F1,ρ1,rp1,po⟩
 refine ⟨F1,ρ1,rp1,?_⟩
 cases m with
 | zero=>exact po.elim
 | succ m=>
  have po:PoS C own own σ1 F1 H1 ((ft ρ1).bind fun q=>if q.1=true then (fb q.2).bind fun p=>match p.1 with | .nx=>jO ft fb m p.2 | .ct=>jO ft fb m p.2 | .bk=>.ok (.nx,p.2) | .rt v=>.ok (.rt v,p.2) else .ok (.nx,q.2)) D:=po
  refine PoS.bindT po fun F2 H2 k ρ2 rp2 c2 h2=>?_
  cases k with
  | false=>exact h2 σ1 F2 H2 (.refl rp2)
  | true=>
   refine ⟨fun σ3 H3=>∃ F' ρ',Rep C.K own F' H3 σ3 ρ'/\PoS C own own σ3 F' H3 (jO ft fb m ρ') D,fun σ3 H3 q=>⟨m,by omega,q⟩,F2,ρ2,rp2,?_⟩
   have h2:PoS C own own σ1 F2 H2 ((fb ρ2).bind fun p=>match p.1 with | .nx=>jO ft fb m p.2 | .ct=>jO ft fb m p.2 | .bk=>.ok (.nx,p.2) | .rt v=>.ok (.rt v,p.2)) D:=h2
   have up:∀ {ρ4 σ4 F4 H4},Nx { C with ol:=own } own own σ1 F2 H2 ρ4 σ4 F4 H4->Nx C own own σ1 F2 H2 ρ4 σ4 F4 H4:=fun z=>⟨z.rep,z.chg,z.oa,z.io⟩
   cases q2:fb ρ2 with
   | exc c=>rw [q2] at h2; exact h2
   | bad=>rw [q2] at h2; exact h2.elim
   | ok p=>
    rw [q2] at h2
    obtain ⟨fl,ρ4⟩:=p
    cases fl with
    | nx=>exact fun σ4 F4 H4 n4=>⟨F4,ρ4,n4.rep,PoS.shift (show PoS C own own σ1 F2 H2 (jO ft fb m ρ4) D from h2) (up n4)⟩
    | ct=>exact fun σ4 F4 H4 n4=>⟨F4,ρ4,n4.rep,PoS.shift (show PoS C own own σ1 F2 H2 (jO ft fb m ρ4) D from h2) (up n4)⟩
    | bk=>exact fun σ4 F4 H4 n4=>h2 σ4 F4 H4 (up n4)
    | rt d=>exact fun v σ4 F4 H4 s io c e mo=>h2 v σ4 F4 H4 s io c e mo
end
noncomputable def Qz (cells:List (Str×Addr)):List (Str×NameKind)->List (Str×Addr)->List (Str×Addr)
 | [],acc=>acc
 | (n,k)::r,acc=>if (k == .free)=true then Qz cells r ((n,(cells.lookup n).getD 0)::acc) else Qz cells r acc
theorem wf {env:Env}:∀ (names:List (Str×NameKind)) (acc:List (Str×Addr)),(∀ x∈names,x.2=.free->∃ c,env.cells.lookup x.1=some c) ->
  (forIn names acc fun (x:Str×NameKind) (cs:List (Str×Addr))=>if (x.2 == NameKind.free)=true then (do let a <-cellOf env x.1; pure (ForInStep.yield ((x.1,a)::cs))) else pure (ForInStep.yield cs):Sem (List (Str×Addr)))=pure (Qz env.cells names acc)
 | [],acc,_=>rfl
 | (n,k)::r,acc,h=>by
  rw [List.forIn_cons]
  by_cases q:(k == NameKind.free)=true
  ·obtain ⟨c,hc⟩:=h (n,k) List.mem_cons_self (by simpa using q)
   have e:cellOf env n=pure c:=by unfold cellOf; rw [hc]
   simp only [q,if_true,e]
   have ih:=wf r ((n,c)::acc) (fun x hx=>h x (List.mem_cons_of_mem _ hx))
   simp only [Qz,q,if_true,hc,Option.getD_some]
   exact ih
  ·simp only [q,if_false,Qz]
   exact wf r acc (fun x hx=>h x (List.mem_cons_of_mem _ hx))
theorem zW {scope:Scope} {env:Env} (h:∀ x∈scope.names,x.2=.free->∃ c,env.cells.lookup x.1=some c):closureFor scope env=pure (Qz env.cells scope.names []):=by
 have:=wf scope.names [] h
 unfold closureFor
 simp only [bind_pure]
 exact this
theorem ue {cells:List (Str×Addr)}:∀ {names:List (Str×NameKind)} {acc:List (Str×Addr)} {x:Str} {c:Addr},(∀ y∈names,y.2=.free->∃ c,cells.lookup y.1=some c)->(Qz cells names acc).lookup x=some c->cells.lookup x=some c\/acc.lookup x=some c
 | [],acc,x,c,_,h=>.inr h
 | (n,k)::r,acc,x,c,hf,h=>by
  unfold Qz at h
  by_cases q:(k == NameKind.free)=true
  ·rw [if_pos q] at h
   obtain ⟨c',hc⟩:=hf (n,k) List.mem_cons_self (by simpa using q)
   rcases ue (fun y hy=>hf y (List.mem_cons_of_mem _ hy)) h with z | z
   ·exact .inl z
   ·rw [List.lookup_cons] at z
    have hc:cells.lookup n=some c':=hc
    by_cases e:(x == n)=true
    ·rw [e] at z
     simp only [hc,Option.getD_some] at z
     have:x=n:=by simpa using e
     subst this
     rw [hc]; exact .inl z
    ·have e:(x == n)=false:=by simpa using e
     rw [e] at z
     exact .inr z
  ·rw [if_neg q] at h
   exact ue (fun y hy=>hf y (List.mem_cons_of_mem _ hy)) h
theorem gA {cells:List (Str×Addr)}:∀ {names:List (Str×NameKind)} {acc:List (Str×Addr)} {x:Str},(∃ c,acc.lookup x=some c)->∃ c,(Qz cells names acc).lookup x=some c
 | [],_,_,h=>h
 | (n,k)::r,acc,x,h=>by
  unfold Qz
  by_cases q:(k == NameKind.free)=true
  ·rw [if_pos q]
   refine gA ?_
   obtain ⟨c,hc⟩:=h
   rw [List.lookup_cons]
   by_cases e:(x == n)=true
   ·rw [e]; exact ⟨_,rfl⟩
   ·have e:(x == n)=false:=by simpa using e
    rw [e]; exact ⟨c,hc⟩
  ·rw [if_neg q]; exact gA h
theorem xf {cells:List (Str×Addr)}:∀ {names:List (Str×NameKind)} {acc:List (Str×Addr)} {x:Str},(x,NameKind.free)∈names->∃ c,(Qz cells names acc).lookup x=some c
 | (n,k)::r,acc,x,h=>by
  unfold Qz
  rcases List.mem_cons.mp h with e | h
  ·cases e
   rw [if_pos (by rfl)]
   refine gA ?_
   rw [List.lookup_cons,beq_self_eq_true]
   exact ⟨_,rfl⟩
  ·by_cases q:(k == NameKind.free)=true
   ·rw [if_pos q]; exact xf h
   ·rw [if_neg q]; exact xf h
noncomputable def jB (X:Cx) (scope:Scope) (N:List Str) (fp:List Addr) (L:Addr) (s:Shared) (H:Hp):Cx:=
 { X with N:=N,s₀:=s,H₀:=H,env:=compEnvC scope (Qz X.env.cells scope.names []) L X.env,outer:=X.stack,stack:=X.stack,ex:=fp,fn:=fun _=>false,pn:=[],xe:=fun _ _=>False }
structure ScOk (X:Cx) (scope:Scope):Prop where
 kind:scope.kind=.function
 nocell:∀ y∈scope.names,y.2≠.cell
 names:∀ y∈scope.names,y.2=.local->scope.names.lookup y.1=some .local
 free:∀ y∈scope.names,y.2=.free->X.env.kindOf y.1=some .cell\/X.env.kindOf y.1=some .free
 frl:∀ y∈scope.names,y.2=.free->scope.names.lookup y.1=some .free
theorem wF {α:Type} {x:Str} {a:α}:∀ {l:List (Str×α)},l.lookup x=some a->(x,a)∈l
 | [],h=>by simp at h
 | (n,k)::r,h=>by
  rw [List.lookup_cons] at h
  by_cases e:(x == n)=true
  ·rw [e] at h
   have h:some k=some a:=h
   cases h
   have:x=n:=by simpa using e
   subst this
   exact List.mem_cons_self
  ·have e:(x == n)=false:=by simpa using e
   rw [e] at h
   exact List.mem_cons_of_mem _ (wF h)
theorem yF {scope:Scope} {env:Env} {x:Str} {k:NameKind} (h:(relabel scope env).names.lookup x=some k) (hk:k=.cell\/k=.free) (hn:∀ y∈scope.names,y.2≠.cell):(x,NameKind.free)∈scope.names:=by
 have m:=wF h
 obtain ⟨⟨n,k'⟩,hm,e⟩:=List.mem_map.mp m
 dsimp only at e
 by_cases q:(k' == NameKind.free&&env.scope.kind == .function&&env.kindOf n == some .cell)=true
 ·rw [if_pos q] at e
  cases e
  have:k'=.free:=by
   rw [Bool.and_eq_true,Bool.and_eq_true] at q
   simpa using q.1.1
  subst this
  exact hm
 ·rw [if_neg q] at e
  cases e
  rcases hk with rfl | rfl
  ·exact absurd rfl (hn _ hm)
  ·exact hm
theorem QW {scope:Scope} {env:Env} {x:Str} (h:Vis (relabel scope env) x):∃ k,(x,k)∈scope.names:=by
 have go:∀ {k:NameKind},(relabel scope env).names.lookup x=some k->∃ k,(x,k)∈scope.names:=fun {k} h=>by
  obtain ⟨⟨n,k'⟩,hm,e⟩:=List.mem_map.mp (wF h)
  dsimp only at e
  by_cases q:(k' == NameKind.free&&env.scope.kind == .function&&env.kindOf n == some .cell)=true
  ·rw [if_pos q] at e
   cases e
   exact ⟨_,hm⟩
  ·rw [if_neg q] at e
   cases e
   exact ⟨_,hm⟩
 rcases h with h | h | h <;> exact go h
section
variable {X:Cx} {pins:List (Addr×Obj)} {σ σc:St} {H:Hp} {s:Shared} {scope:Scope} {N:List Str} {fp:List Addr}
theorem xF (I:Inv X pins σ H s) (S:ScOk X scope):∀ y∈scope.names,y.2=.free->∃ c,X.env.cells.lookup y.1=some c:=fun y hy e=>I.ok.has y.1 (S.free y hy e)
theorem Zo {h':Heap} (I:Inv X pins σ H s) (S:ScOk X scope) (hf:∀ b∈fp,JJ X pins H b) (ho:∀ b∈fp,b < s.heap.objs.size) (hns:h'.Ns s.heap.objs.size (fun _=>none))
  (hk:∀ b o,s.heap.get? b=some o->h'.get? b=some o) (hl:σc.length=N.length)
  (hσ:∀ (j:Nat) (x:Str) (v:V),N[j]?=some x->σc[j]?=some (some v)->(∃ k,(x,k)∈scope.names)->∃ i:Nat,X.N[i]?=some x/\σ[i]?=some (some v)/\Vis X.env.scope x/\(x,NameKind.free)∈scope.names) {t:Nat} :
  Inv (jB X scope N fp s.heap.objs.size s H) [] σc H { s with heap:=h',toks:=t }:=by
 have hfc:=xF I S
 have cl:∀ x c,(Qz X.env.cells scope.names []).lookup x=some c->X.env.cells.lookup x=some c:=fun x c e=>(ue hfc e).resolve_right (by simp)
 have nfs:∀ b∈fp,b∉frs X.stack:=fun b hb z=>by
  obtain ⟨f0,f1,f2,_⟩:=hf b hb
  rcases List.mem_cons.mp (I.stkSub b z) with e | e
  ·exact f1 e
  ·exact f2 e
 refine ⟨⟨I.ok.mod,?_,I.ok.glob,I.ok.blt,Nat.le_refl _,fun x y c h1 h2=>I.ok.inj x y c (cl x c h1) (cl y c h2),fun x hx=>?_,fun x c h=>absurd h (by show ¬(false=true); exact Bool.false_ne_true),I.ok.hd,I.ok.frames,.inl rfl,fun b hb=>⟨Nat.ne_of_lt (ho b hb),fun x c e z=>?_⟩,I.bs,Nat.le_trans I.ok.bsz I.sz,fun b o e hb=>?_,nfs,I.stack,I.stkFree⟩,
  rfl,I.bare,Un.kept hk,⟨_,hns,fun j x v e1 e2 e3=>?_⟩,fun x c e=>?_,I.hok.fresh (Nat.le_refl _),fun x c e=>I.freeC x c (cl x c e),fun p hp=>absurd (show p∈([]:List (Addr×Obj)) from hp) (by simp),I.hok.kept hk,hl⟩
 ·exact S.kind
 ·refine xf ?_
  rcases hx with hx | hx
  ·exact yF hx (.inl rfl) S.nocell
  ·exact yF hx (.inr rfl) S.nocell
 ·exact (hf b hb).2.2.2.2.1 x c (cl x c e) z
 ·rcases (hf b hb).2.2.2.1 with z | z
  ·exact I.ok.noex b o e z
  ·have hlt:=Heap.lt_size e
   exact absurd (Nat.lt_of_lt_of_le hlt (Nat.le_trans I.ok.bsz z)) (Nat.lt_irrefl _)
 ·obtain ⟨i,g1,g2,g3,g4⟩:=hσ j x v e1 e2 (QW e3)
  obtain ⟨m,hn,hl'⟩:=I.loc
  obtain ⟨u,r,look⟩:=hl' i x v g1 g2 g3
  refine ⟨u,r,?_⟩
  obtain ⟨c0,hc0⟩:=xf (cells:=X.env.cells) (acc:=[]) g4
  have hce:=cl x c0 hc0
  have kd:(jB X scope N fp s.heap.objs.size s H).env.kindOf x=some .cell\/(jB X scope N fp s.heap.objs.size s H).env.kindOf x=some .free\/(jB X scope N fp s.heap.objs.size s H).env.kindOf x=some .local:=by
   rcases e3 with z | z | z
   ·exact .inr (.inr z)
   ·exact .inl z
   ·exact .inr (.inl z)
  rcases look with ⟨k,_⟩ | ⟨k,c,hc,z⟩
  ·rcases S.free _ g4 rfl with q | q
   ·have q:X.env.kindOf x=some .cell:=q
    rw [k] at q; cases q
   ·have q:X.env.kindOf x=some .free:=q
    rw [k] at q; cases q
  ·rw [hce] at hc
   cases hc
   obtain ⟨oc,ho1,ho2⟩:=z
   rcases kd with q | q | q
   ·exact .inr ⟨.inl q,c0,hc0,⟨oc,hk _ _ ho1,ho2⟩⟩
   ·exact .inr ⟨.inr q,c0,hc0,⟨oc,hk _ _ ho1,ho2⟩⟩
   ·refine absurd q ?_
    intro q
    have m2:=wF (show (relabel scope X.env).names.lookup x=some .local from q)
    obtain ⟨⟨n,k'⟩,hm,e⟩:=List.mem_map.mp m2
    dsimp only at e
    by_cases qq:(k' == NameKind.free&&X.env.scope.kind == .function&&X.env.kindOf n == some .cell)=true
    ·rw [if_pos qq] at e; cases e
    ·rw [if_neg qq] at e
     cases e
     have e1:=S.names _ hm rfl
     have e2:=S.frl _ g4 rfl
     have e1:scope.names.lookup x=some .local:=e1
     have e2:scope.names.lookup x=some .free:=e2
     rw [e1] at e2
     cases e2
 ·obtain ⟨v,oc,ho1,ho2⟩:=I.cell x c (cl x c e)
  exact ⟨v,oc,hk _ _ ho1,ho2⟩
theorem Zp {H1 H':Hp} {s1 s':Shared} {h':Heap} {L:Addr} (I:Inv X pins σ H s) (hf:∀ b∈fp,JJ X pins H b) (J:Inv (jB X scope N fp s.heap.objs.size s H) [] σc H' s') (sb:Heap.SameBut s.heap.objs.size s'.heap h'):Inv X pins σ H' { s' with heap:=h' }:=by
 have hL:H' s.heap.objs.size=none:=J.free
 have ne:∀ b o,s.heap.get? b=some o->b≠s.heap.objs.size:=fun b o e=>Nat.ne_of_lt (Heap.lt_size e)
 have U:Un (frs X.stack) fp H H' s.heap s'.heap:=J.base
 refine I.call' (s':={ s' with heap:=h' }) (ch:=fp) J.os ⟨fun b o e n h1 h2=>(sb.2 b (ne b o e)).trans (U.keep b o e n h1 h2),fun b o e n h1 h2=>?_,U.free,fun b o e h2=>?_,U.tups,U.frzs,U.tbls⟩ (fun b u e=>?_) J.bare fun b hb=>?_
 ·obtain ⟨sl,q⟩:=U.slot b o e n h1 h2
  exact ⟨sl,(sb.2 b (ne b o e)).trans q⟩
 ·obtain ⟨o',q⟩:=U.there b o e h2
  exact ⟨o',(sb.2 b (ne b o e)).trans q⟩
 ·refine (J.hok b u e).stay (fun c w hc q=>(sb.2 c ?_).trans q) (fun _ q=>q) fun _ _ q=>q
  rintro rfl
  rcases hc with z | z
  ·rw [<-z,hL] at e; cases e
  ·rw [hL] at z; cases z
 ·obtain ⟨f0,f1,f2,f3,f4,f5⟩:=hf b hb
  exact ⟨f3,f1,f4,f5⟩
end
theorem gB {prog:Program} {w:World} {A:Around} {R:Result->Shared->Prop} {s:Shared} {elt target iter:Expr} {ifs:List Expr} {scope:Scope} {pos:Pos} {it acc:Value} {env:Env} (I:Nat->Shared->Prop)
  (turn:∀ n s,I n s->wpAny (model prog w) A (pyNext it) (fun r s₁=>match r with
   | none=>R (.ok .next) s₁
   | some v=>wpAny (model prog w) A (letOwnedTupleGo target it v) (fun _ t₁=>wpAny (model prog w) A (assign target env v) (fun _ s₂=>
     wpAny (model prog w) A (forIn ifs true fun c r=>if r=true then do let ok <-isTrue c env (eval c env); pure (ForInStep.yield ok) else pure (ForInStep.yield r)) (fun ok s₃=>
      if ok=true then wpAny (model prog w) A (eval elt env) (fun x s₄=>
       wpAny (model prog w) A (call (.builtin "list.append") [acc,x]) (fun _ s₅=>∃ m,m < n/\I m s₅) (fun _ _=>False) s₄) (fun _ _=>False) s₃
      else ∃ m,m < n/\I m s₃) (fun _ _=>False) s₂) (fun _ _=>False) t₁) (fun _ _=>False) s₁) (fun _ _=>False) s)
  (n:Nat) (h:I n s):codeAny (model prog w) A (.compLoop (.ListComp elt [⟨target,iter,ifs,0⟩] scope pos) 0 it acc env) R s:=by
 have no:∀ {α:Type} {t:Sem α} {Q Q':α->Shared->Prop} {E':Value->Shared->Prop} {s:Shared},wpAny (model prog w) A t Q (fun _ _=>False) s->(∀ a s,Q a s->Q' a s)->wpAny (model prog w) A t Q' E' s:=fun h k=>wpAny_mono h k fun _ _ z=>z.elim
 refine codeAny_loop rfl I (fun n s hI=>?_) n h
 show wpAny _ A ((compTurn (.ListComp elt [⟨target,iter,ifs,0⟩] scope pos) 0 it acc env).onRaise (fun x=>do noteFrame x env; theTreesLotGoes x)) _ _ s
 refine wpAny_noted ?_
 rw [compTurn_list]
 refine wpAny_bind (wpAny_standAt (wpAny_bind (no (turn n s hI) fun r s₁ h₁=>?_)))
 cases r with
 | none=>exact wpAny_pure h₁
 | some v=>
  refine wpAny_bind (no h₁ fun _ t₁ k₁=>wpAny_bind (no k₁ fun _ s₂ h₂=>wpAny_bind (no h₂ fun ok s₃ h₃=>?_)))
  cases ok with
  | false=>exact wpAny_pure ⟨rfl,h₃⟩
  | true=>exact wpAny_bind (wpAny_bind (no h₃ fun x s₄ h₄=>wpAny_bind (no h₄ fun _ s₅ h₅=>wpAny_pure (wpAny_pure ⟨rfl,h₅⟩))))
structure PTs (Y:Cx) (ifs:List Expr) (t:TT):Prop where
 run:∀ (pins:List (Addr×Obj)) (s:Shared) (σ:St) (H:Hp) (Q:Bool->Hp->Prop),Inv Y pins σ H s->t σ H Q ->
  wpAny (model Y.prog Y.w) Y.A (forIn ifs true fun c r=>if r=true then do let ok <-isTrue c Y.env (eval c Y.env); pure (ForInStep.yield ok) else pure (ForInStep.yield r)) (TP Y pins σ Q) Y.xe s
instance {Y:Cx} {ifs:List Expr} {t:TT}:CoeFun (PTs Y ifs t) (fun _=>∀ (pins:List (Addr×Obj)) (s:Shared) (σ:St) (H:Hp) (Q:Bool->Hp->Prop),Inv Y pins σ H s->t σ H Q ->
  wpAny (model Y.prog Y.w) Y.A (forIn ifs true fun c r=>if r=true then do let ok <-isTrue c Y.env (eval c Y.env); pure (ForInStep.yield ok) else pure (ForInStep.yield r)) (TP Y pins σ Q) Y.xe s):=⟨fun h=>h.run⟩
theorem qaZ {Y:Cx}:PTs Y [] (fun _ H Q=>Q true H):=⟨fun _ _ _ H _ I h=>wpAny_tests_nil ⟨H,I,h⟩⟩
theorem gC {Y:Cx} {c:Expr} {t:TT} (h:PT Y c t):PTs Y [c] t:=⟨fun pins s σ H Q I q=>wpAny_tests_one (h pins s σ H Q I q)⟩
section
variable {X:Cx} {pins:List (Addr×Obj)} {σ σc:St} {H:Hp} {s:Shared} {scope:Scope} {N:List Str} {fp:List Addr} {it:Addr} {tn:Nat->Heap->Prop} {J:It} {tg elt iter:Expr} {ifs:List Expr} {pos:Pos} {g:TG} {tt:TT} {te:TE} {E:Value->Shared->Prop}
theorem Zq (I:Inv X pins σ H s) (hcalm:X.calm=true) (S:ScOk X scope) (T:Turn X.prog X.w X.K tg J fp it tn) (st0:tn 0 s.heap) (hf:∀ b∈fp,JJ X pins H b)
  (hg:∀ fp L s' H',PG (jB X scope N fp L s' H') tg g) (ht:∀ fp L s' H',PTs (jB X scope N fp L s' H') ifs tt) (he:∀ fp L s' H',PE (jB X scope N fp L s' H') elt te) (hl:σc.length=N.length)
  (hσ:∀ (j:Nat) (x:Str) (v:V),N[j]?=some x->σc[j]?=some (some v)->(∃ k,(x,k)∈scope.names)->∃ i:Nat,X.N[i]?=some x/\σ[i]?=some (some v)/\Vis X.env.scope x/\(x,NameKind.free)∈scope.names)
  (W:Addr->Nat->Nat->St->Hp->Prop) (Fin:Addr->Hp->Prop) (w0:∀ p,H p=none->∃ m,W p 0 m σc (upd H p (.lst [])))
  (turn:∀ p i m σ1 H1,W p i m σ1 H1->(J.stop i H1/\Fin p H1)\/(J.go i H1/\∀ x H2,J.yld i H1 x H2->g x σ1 H2 fun σ2 H3=>tt σ2 H3 fun b H4=>if b=true then te σ2 H4 fun y H5=>∃ xs,H5 p=some (.lst xs)/\xs.length < sizeLine/\∃ m',m' < m/\W p (i+1) m' σ2 (upd H5 p (.lst (xs++[y]))) else ∃ m',m' < m/\W p (i+1) m' σ2 H4))
  (RR:Value->Addr->Result->Shared->Prop)
  (hRR:∀ p L H' s',Fin p H'->(∃ m,s'.heap.Ns L m)->JJ X pins H' L->(∀ h',Heap.SameBut L s'.heap h'->Inv X pins σ H' { s' with heap:=h' })->RR (.ref p) L (.ok .next) s') :
  wpAny (model X.prog X.w) X.A (newList []) (fun acc s₃=>wpAny (model X.prog X.w) X.A (newFunctionEnv scope X.env.globals (Qz X.env.cells scope.names []) [] X.env.qual none .none (some X.env)) (fun cenv s₄=>
   codeAny (model X.prog X.w) X.A (.compStart (.ListComp elt [⟨tg,iter,ifs,0⟩] scope pos) 0 (.ref it) acc { cenv with scope:=relabel scope X.env }) (RR acc cenv.locals) s₄) E s₃) E s:=by
 have hfo:∀ b∈fp,b < s.heap.objs.size:=fun b hb=>let ⟨o,e,_⟩:=T.obj 0 _ st0 b hb; Heap.lt_size e
 have hfresh:=I.fresh
 have I3:Inv X pins σ (upd H s.heap.objs.size (.lst [])) { s with heap:=s.heap.push { cls:=.type "list",data:=.seq ([]:List Value).toArray } }:=I.lnew (t':=s.toks) (ys:=[]) (its:=[]) .nil (Nat.zero_le _)
 have hf3:∀ b∈fp,JJ X pins (upd H s.heap.objs.size (.lst [])) b:=fun b hb=>⟨by rw [qA (Nat.ne_of_lt (hfo b hb))]; exact (hf b hb).1,(hf b hb).2⟩
 have st3:tn 0 (s.heap.push { cls:=.type "list",data:=.seq ([]:List Value).toArray }):=T.keep 0 _ _ st0 fun b hb o e=>Heap.get?_push_of_some _ e
 refine wpAny_newObj_type (wpAny_newFunctionEnv S.nocell (fun y hy=>by simp at hy) (fun h₁ hns₁ hsb₁=>?_) S.kind)
 dsimp only at hns₁ hsb₁ ⊢
 generalize hs3:({ s with heap:=s.heap.push { cls:=.type "list",data:=.seq ([]:List Value).toArray } }:Shared)=s3 at I3
 have e3:s3.heap=s.heap.push { cls:=.type "list",data:=.seq ([]:List Value).toArray }:=by rw [<-hs3]
 rw [<-e3] at hns₁ hsb₁ st3 ⊢
 have keep:∀ b o,s3.heap.get? b=some o->h₁.get? b=some o:=fun b o e=>(hsb₁.2 b (Nat.ne_of_lt (Heap.lt_size e))).trans (Heap.get?_push_of_some _ e)
 have ho3:∀ b∈fp,b < s3.heap.objs.size:=fun b hb=>by rw [e3,Heap.size_push]; exact Nat.lt_succ_of_lt (hfo b hb)
 have J1:Inv (jB X scope N fp s3.heap.objs.size s3 (upd H s.heap.objs.size (.lst []))) [] σc (upd H s.heap.objs.size (.lst [])) { s3 with heap:=h₁,toks:=s.toks+0 }:=
  Zo I3 S hf3 ho3 (by simpa using hns₁) keep hl hσ
 have st4:tn 0 h₁:=T.keep 0 _ _ st3 fun b hb o e=>keep b o e
 have loop:∀ s4:Shared,s4={ s3 with heap:=h₁,toks:=s.toks+0 }->codeAny (model X.prog X.w) X.A (.compLoop (.ListComp elt [⟨tg,iter,ifs,0⟩] scope pos) 0 (.ref it) (.ref s.heap.objs.size) (compEnvC scope (Qz X.env.cells scope.names []) s3.heap.objs.size X.env)) (RR (.ref s.heap.objs.size) s3.heap.objs.size) s4:=by
  rintro s4 rfl
  generalize hY:jB X scope N fp s3.heap.objs.size s3 (upd H s.heap.objs.size (.lst []))=Y at J1
  have eP:Y.prog=X.prog:=by rw [<-hY]; rfl
  have ew:Y.w=X.w:=by rw [<-hY]; rfl
  have eA:Y.A=X.A:=by rw [<-hY]; rfl
  have ee:Y.env=compEnvC scope (Qz X.env.cells scope.names []) s3.heap.objs.size X.env:=by rw [<-hY]; rfl
  have eK:Y.K=X.K:=by rw [<-hY]; rfl
  have ec:Y.calm=true:=by rw [<-hY]; exact hcalm
  have ex:Y.xe=fun _ _=>False:=by rw [<-hY]; rfl
  have hgY:PG Y tg g:=by rw [<-hY]; exact hg fp _ _ _
  have htY:PTs Y ifs tt:=by rw [<-hY]; exact ht fp _ _ _
  have heY:PE Y elt te:=by rw [<-hY]; exact he fp _ _ _
  have stat:∀ {H1:Hp},(∀ b∈fp,H1 b=none)->∀ b∈fp,JJ Y [] H1 b:=fun hn b hb=>by
   have q:=J1.ok.exf b (by rw [<-hY]; exact hb)
   refine ⟨hn b hb,q.1,J1.ok.exfs b (by rw [<-hY]; exact hb),.inl (by rw [<-hY]; exact hb),q.2,fun p hp=>?_⟩
   rw [<-hY] at hp
   exact absurd (show p∈([]:List (Addr×Obj)) from hp) (by simp)
  obtain ⟨m0,hm0⟩:=w0 s.heap.objs.size hfresh
  refine gB (fun n s'=>∃ i σ1 H1,Inv Y [] σ1 H1 s'/\tn i s'.heap/\(∀ b∈fp,H1 b=none)/\W s.heap.objs.size i n σ1 H1) ?_ m0 ⟨0,σc,_,J1,st4,fun b hb=>(hf3 b hb).1,hm0⟩
  rintro n s5 ⟨i,σ1,H1,J5,st5,fr5,w5⟩
  rw [<-eP,<-ew,<-eA,<-ee]
  have TY:Turn Y.prog Y.w Y.K tg J fp it tn:=by rw [eP,ew,eK]; exact T
  rcases turn _ i n σ1 H1 w5 with ⟨stop,fin⟩ | ⟨go,step⟩
  ·refine thn (TY.done Y rfl rfl rfl ec i [] s5 σ1 H1 _ J5 (stat fr5) st5 stop) fun r s6 ⟨hr,J6⟩=>?_
   subst hr
   have J6':Inv (jB X scope N fp s3.heap.objs.size s3 (upd H s.heap.objs.size (.lst []))) [] σ1 H1 s6:=by rw [hY]; exact J6
   exact hRR _ _ H1 s6 fin (let ⟨m,hn,_⟩:=J6'.loc; ⟨m,hn⟩) (I3.fpOk (Nat.le_refl _) J6'.free) fun h' sb=>Zp (s1:=s6) (H1:=H1) (L:=0) I3 hf3 J6' sb
  ·refine thn (TY.item Y rfl rfl rfl ec i [] s5 σ1 H1 _ J5 (stat fr5) st5 go) fun r s6 ⟨u,hr,h6⟩=>?_
   subst hr
   refine thn h6 fun _ s7 ⟨x,H7,J7,r7,y7,st7,fr7⟩=>?_
   have J7':=J7.pinned (stat fr7) (TY.obj _ _ st7)
   have back:∀ {σ9:St} {H9:Hp} {s9:Shared},Inv Y ([]++QF fp s7.heap) σ9 H9 s9->(∃ m',m' < n/\W s.heap.objs.size (i+1) m' σ9 H9)->∃ m,m < n/\∃ i σ1 H1,Inv Y [] σ1 H1 s9/\tn i s9.heap/\(∀ b∈fp,H1 b=none)/\W s.heap.objs.size i m σ1 H1:=fun {σ9 H9 s9} J9 ⟨m',hm,w9⟩=>by
    refine ⟨m',hm,i+1,σ9,H9,J9.unpinned,TY.keep _ _ _ st7 fun b hb o e=>(J9.pin (b,o) (List.mem_append_right _ (List.mem_append_right _ (wB hb e)))).1,fun b hb=>?_,w9⟩
    obtain ⟨o,e,d⟩:=TY.obj _ _ st7 b hb
    exact (J9.pin (b,o) (List.mem_append_right _ (List.mem_append_right _ (wB hb e)))).2.1
   rw [<-ex]
   refine thn (hgY _ s7 σ1 H7 x u _ J7' r7 (step x H7 y7)) fun _ s8 ⟨σ8,H8,J8,q8⟩=>?_
   refine thn (htY _ s8 σ8 H8 _ J8 q8) fun ok s9 ⟨H9,J9,q9⟩=>?_
   cases ok with
   | false=>exact back J9 q9
   | true=>
    refine thn (heY _ s9 σ8 H9 _ J9 q9) fun v s10 ⟨y,H10,J10,r10,xs,hx,hlen,q10⟩=>?_
    exact thn (QL _ s10 σ8 H10 (.ref s.heap.objs.size) [y] (.ref s.heap.objs.size) [v] (fun _ H11=>∃ m',m' < n/\W s.heap.objs.size (i+1) m' σ8 H11) J10 rfl (.cons r10 .nil) ⟨_,xs,y,rfl,rfl,hx,hlen,q10⟩) fun _ s11 ⟨_,H11,J11,_,q11⟩=>back J11 q11
 have e4:({ heap:=h₁,gens:=s.gens,drawn:=s.drawn,toks:=s.toks+([]:List (Str×Value)).length,os:=s.os }:Shared)={ s3 with heap:=h₁,toks:=s.toks+0 }:=by rw [<-hs3]; rfl
 exact codeAny_compStart_list (loop _ e4) (T.self _ 0 _ _ _ st4 (loop _ e4))
end
noncomputable def kh {α:Type} (nt:Nat) (cap:List Nat) (ρ:List (Option α)):List (Option α):=List.replicate nt none++cap.map fun k=>(ρ[k]?).getD none
noncomputable def uf (own:List Nat):Nat->List Nat->List Nat
 | _,[]=>[]
 | n,k::cap=>if k∈own then n::uf own (n+1) cap else uf own (n+1) cap
noncomputable def ioC (nt len:Nat):List Nat:=(List.range len).map (nt + ·)
noncomputable def jq (own:List Nat) (ρc:Sl):Nat->List Nat->Sl->Sl
 | _,[],ρ=>ρ
 | n,k::cap,ρ=>if k∈own then jq own ρc (n+1) cap (ρ.set k ((ρc[n]?).getD none)) else jq own ρc (n+1) cap ρ
theorem get_cap {α:Type} {nt:Nat} {cap:List Nat} {ρ:List (Option α)} {i:Nat} {d:α}:(kh nt cap ρ)[i]?=some (some d)↔∃ j k,i=nt+j/\cap[j]?=some k/\ρ[k]?=some (some d):=by
 unfold kh
 constructor
 ·intro h
  by_cases hi:i < nt
  ·rw [List.getElem?_append_left (by simpa using hi),List.getElem?_replicate] at h
   split at h <;> cases h
  ·rw [List.getElem?_append_right (by simpa using hi),List.length_replicate,List.getElem?_map] at h
   cases q:cap[i - nt]? with
   | none=>rw [q] at h; cases h
   | some k=>
    rw [q] at h
    have h:(ρ[k]?).getD none=some d:=Option.some.inj h
    refine ⟨i - nt,k,by omega,q,?_⟩
    cases q2:ρ[k]? with
    | none=>rw [q2] at h; cases h
    | some o=>rw [q2] at h; exact congrArg some h
 ·rintro ⟨j,k,rfl,h1,h2⟩
  rw [List.getElem?_append_right (by simp),List.length_replicate,List.getElem?_map,show nt+j - nt=j by omega,h1]
  simp [h2]
theorem mem_ownC {own:List Nat}:∀ {n:Nat} {cap:List Nat} {i:Nat},i∈uf own n cap↔∃ j k,i=n+j/\cap[j]?=some k/\k∈own
 | n,[],i=>by simp [uf]
 | n,k::cap,i=>by
  have ih:=@mem_ownC own (n+1) cap i
  unfold uf
  by_cases hk:k∈own
  ·rw [if_pos hk,List.mem_cons,ih]
   constructor
   ·rintro (rfl | ⟨j,k',e,h1,h2⟩)
    ·exact ⟨0,k,rfl,rfl,hk⟩
    ·exact ⟨j+1,k',by omega,by simpa using h1,h2⟩
   ·rintro ⟨j,k',e,h1,h2⟩
    cases j with
    | zero=>exact .inl (by omega)
    | succ j=>exact .inr ⟨j,k',by omega,by simpa using h1,h2⟩
  ·rw [if_neg hk,ih]
   constructor
   ·rintro ⟨j,k',e,h1,h2⟩
    exact ⟨j+1,k',by omega,by simpa using h1,h2⟩
   ·rintro ⟨j,k',e,h1,h2⟩
    cases j with
    | zero=>simp at h1; subst h1; exact absurd h2 hk
    | succ j=>exact ⟨j,k',by omega,by simpa using h1,h2⟩
theorem mem_ioC {nt len i:Nat}:i∈ioC nt len↔∃ j,j < len/\i=nt+j:=by
 unfold ioC
 rw [List.mem_map]
 constructor
 ·rintro ⟨j,h1,h2⟩; exact ⟨j,List.mem_range.mp h1,h2.symm⟩
 ·rintro ⟨j,h1,h2⟩; exact ⟨j,List.mem_range.mpr h1,h2.symm⟩
theorem ya {own:List Nat} {ρc:Sl}:∀ {n:Nat} {cap:List Nat} {ρ:Sl},(jq own ρc n cap ρ).length=ρ.length
 | _,[],_=>rfl
 | n,k::cap,ρ=>by
  unfold jq
  by_cases hk:k∈own
  ·rw [if_pos hk,ya,List.length_set]
  ·rw [if_neg hk,ya]
theorem kr {own:List Nat} {ρc:Sl}:∀ {n:Nat} {cap:List Nat} {ρ:Sl} {i:Nat},¬(i∈cap/\i∈own)->(jq own ρc n cap ρ)[i]?=ρ[i]?
 | _,[],_,_,_=>rfl
 | n,k::cap,ρ,i,h=>by
  unfold jq
  have h':¬(i∈cap/\i∈own):=fun z=>h ⟨List.mem_cons_of_mem _ z.1,z.2⟩
  by_cases hk:k∈own
  ·rw [if_pos hk,kr h',List.getElem?_set_ne (fun e=>h ⟨List.mem_cons.mpr (.inl e.symm),by rw [<-e]; exact hk⟩)]
  ·rw [if_neg hk,kr h']
theorem uz {own:List Nat} {ρc:Sl}:∀ {n:Nat} {cap:List Nat} {ρ:Sl} {j k:Nat} {d:D},cap.Nodup->cap[j]?=some k->k∈own->k < ρ.length->ρc[n+j]?=some (some d)->(jq own ρc n cap ρ)[k]?=some (some d)
 | _,[],_,_,_,_,_,h,_,_,_=>by simp at h
 | n,k0::cap,ρ,0,k,d,nd,h,hk,hl,e=>by
  simp at h; subst h
  obtain ⟨n1,n2⟩:=List.nodup_cons.mp nd
  unfold jq
  rw [if_pos hk,kr (fun z=>n1 z.1),List.getElem?_set_self hl]
  have e:ρc[n]?=some (some d):=e
  rw [e]; rfl
 | n,k0::cap,ρ,j+1,k,d,nd,h,hk,hl,e=>by
  obtain ⟨n1,n2⟩:=List.nodup_cons.mp nd
  have h:cap[j]?=some k:=by simpa using h
  have e:ρc[n+1+j]?=some (some d):=by rw [show n+1+j=n+(j+1) by omega]; exact e
  unfold jq
  by_cases hk0:k0∈own
  ·rw [if_pos hk0]; exact uz n2 h hk (by rw [List.length_set]; exact hl) e
  ·rw [if_neg hk0]; exact uz n2 h hk hl e
section
variable {K:Frag} {own cap:List Nat} {nt:Nat} {F H:Hp} {σ σ1:St} {ρ ρ1:Sl}
theorem Kd {α:Type} {ρ:List (Option α)}:(kh nt cap ρ).length=nt+cap.length:=by simp [kh]
theorem UV {l:List Nat} (h:l.Nodup) {i j k:Nat} (a:l[i]?=some k) (b:l[j]?=some k):i=j:=by
 obtain ⟨h1,e1⟩:=List.getElem?_eq_some_iff.mp a
 obtain ⟨h2,e2⟩:=List.getElem?_eq_some_iff.mp b
 exact (List.getElem_inj h).mp (e1.trans e2.symm)
theorem qa0 (rp:Rep K own F H σ ρ) (nd:cap.Nodup):Rep K (uf own nt cap) F H (kh nt cap σ) (kh nt cap ρ) where
 sub:=rp.sub
 len:=by rw [Kd,Kd]
 val:=fun i d hi e=>by
  obtain ⟨j,k,rfl,h1,h2⟩:=get_cap.mp e
  obtain ⟨v,g1,g2⟩:=rp.val k d (fun z=>hi (mem_ownC.mpr ⟨j,k,rfl,h1,z⟩)) h2
  exact ⟨v,get_cap.mpr ⟨j,k,rfl,h1,g1⟩,g2⟩
 ow:=fun i d hi e=>by
  obtain ⟨j,k,rfl,h1,h2⟩:=get_cap.mp e
  obtain ⟨j',k',e',h1',h2'⟩:=mem_ownC.mp hi
  have:j=j':=by omega
  subst this
  rw [h1] at h1'; cases h1'
  obtain ⟨a,g1,g2⟩:=rp.ow k d h2' h2
  exact ⟨a,get_cap.mpr ⟨j,k,rfl,h1,g1⟩,g2⟩
 opn:=fun i hi=>by
  obtain ⟨j,k,rfl,h1,h2⟩:=mem_ownC.mp hi
  obtain ⟨d,e⟩:=rp.opn k h2
  exact ⟨d,get_cap.mpr ⟨j,k,rfl,h1,e⟩⟩
 dis:=fun i i' a hi hi' e e'=>by
  obtain ⟨j,k,rfl,h1,h2⟩:=mem_ownC.mp hi
  obtain ⟨j',k',rfl,h1',h2'⟩:=mem_ownC.mp hi'
  obtain ⟨x,y,q1,q2,q3⟩:=get_cap.mp e
  obtain ⟨x',y',q1',q2',q3'⟩:=get_cap.mp e'
  have:x=j:=by omega
  subst this
  have:x'=j':=by omega
  subst this
  rw [h1] at q2; cases q2
  rw [h1'] at q2'; cases q2'
  have e:=rp.dis k k' a h2 h2' q3 q3'
  subst e
  rw [UV nd h1 h1']
theorem UW (hio:∀ i∈ioC nt cap.length,σ1[i]?=(kh nt cap σ)[i]?) {b:Addr} (h:OA (uf own nt cap) σ1 b):OA own σ b:=by
 obtain ⟨i,hi,e⟩:=h
 obtain ⟨j,k,rfl,h1,h2⟩:=mem_ownC.mp hi
 rw [hio _ (mem_ioC.mpr ⟨j,(List.getElem?_eq_some_iff.mp h1).1,rfl⟩)] at e
 obtain ⟨x,y,q1,q2,q3⟩:=get_cap.mp e
 have:x=j:=by omega
 subst this
 rw [h1] at q2; cases q2
 exact ⟨k,h2,q3⟩
theorem UX {F' H':Hp} (rp:Rep K own F H σ ρ) (nd:cap.Nodup) (rp1:Rep K (uf own nt cap) F' H' σ1 ρ1) (hio:∀ i∈ioC nt cap.length,σ1[i]?=(kh nt cap σ)[i]?) (c:Chg (OA (uf own nt cap) σ1) F H F' H'):Rep K own F' H' σ (jq own ρ1 nt cap ρ) where
 sub:=rp1.sub
 len:=by rw [ya]; exact rp.len
 val:=fun i d hi e=>by
  rw [kr (fun z=>hi z.2)] at e
  obtain ⟨v,h1,h2⟩:=rp.val i d hi e
  exact ⟨v,h1,h2.mono c.grow⟩
 ow:=fun i d hi e=>by
  by_cases q:i∈cap
  ·obtain ⟨j,hj⟩:=List.getElem?_of_mem q
   have hm:nt+j∈uf own nt cap:=mem_ownC.mpr ⟨j,i,rfl,hj,hi⟩
   obtain ⟨d',hd'⟩:=rp1.opn _ hm
   obtain ⟨d0,hd0⟩:=rp.opn i hi
   rw [uz nd hj hi (List.getElem?_eq_some_iff.mp hd0).1 hd'] at e
   cases e
   obtain ⟨a,h1,h2⟩:=rp1.ow _ _ hm hd'
   rw [hio _ (mem_ioC.mpr ⟨j,(List.getElem?_eq_some_iff.mp hj).1,rfl⟩)] at h1
   obtain ⟨x,y,q1,q2,q3⟩:=get_cap.mp h1
   have:x=j:=by omega
   subst this
   rw [hj] at q2; cases q2
   exact ⟨a,q3,h2⟩
  ·rw [kr (fun z=>q z.1)] at e
   obtain ⟨a,h1,h2,h3⟩:=rp.ow i d hi e
   have na:¬OA (uf own nt cap) σ1 a:=fun z=>by
    obtain ⟨i',hi',e'⟩:=z
    obtain ⟨j,k,rfl,g1,g2⟩:=mem_ownC.mp hi'
    rw [hio _ (mem_ioC.mpr ⟨j,(List.getElem?_eq_some_iff.mp g1).1,rfl⟩)] at e'
    obtain ⟨x,y,q1,q2,q3⟩:=get_cap.mp e'
    have:x=j:=by omega
    subst this
    rw [g1] at q2; cases q2
    have e:=rp.dis i k a hi g2 h1 q3
    subst e
    exact q (List.mem_of_getElem? g1)
   refine ⟨a,h1,?_,h3.grow c.grow fun o z=>c.keep a o z na⟩
   cases qq:F' a with
   | none=>rfl
   | some u=>
    rcases c.new a (by rw [qq]; simp) with z | z | z
    ·exact absurd h2 z
    ·exact absurd z h3.there
    ·exact absurd z na
 opn:=fun i hi=>by
  by_cases q:i∈cap
  ·obtain ⟨j,hj⟩:=List.getElem?_of_mem q
   have hm:nt+j∈uf own nt cap:=mem_ownC.mpr ⟨j,i,rfl,hj,hi⟩
   obtain ⟨d',hd'⟩:=rp1.opn _ hm
   obtain ⟨d0,hd0⟩:=rp.opn i hi
   exact ⟨d',uz nd hj hi (List.getElem?_eq_some_iff.mp hd0).1 hd'⟩
  ·rw [kr (fun z=>q z.1)]
   exact rp.opn i hi
 dis:=rp.dis
end
noncomputable def yU (g:D->Sl->Out Sl) (ft:Sl->Out (Bool×Sl)) (fe:Sl->Out (D×Sl)) (d:D) (ρ:Sl):Out (Option D×Sl):=
 (g d ρ).plain.bind fun ρ1=>(ft ρ1).plain.bind fun q=>if q.1=true then (fe q.2).plain.bind fun r=>.ok (some r.1,r.2) else .ok (none,q.2)
noncomputable def jp (g:D->Sl->Out Sl) (ft:Sl->Out (Bool×Sl)) (fe:Sl->Out (D×Sl)):List D->Sl->Out (List D×Sl)
 | [],ρ=>.ok ([],ρ)
 | d::ds,ρ=>(yU g ft fe d ρ).bind fun p=>(jp g ft fe ds p.2).bind fun q=>.ok (p.1.toList++q.1,q.2)
noncomputable def jn (own:List Nat) (nt:Nat) (cap:List Nat) (fi:Sl->Out (List D×Sl)) (g:D->Sl->Out Sl) (ft:Sl->Out (Bool×Sl)) (fe:Sl->Out (D×Sl)):Sl->Out (D×Sl):=fun ρ=>(fi ρ).bind fun p=>
 if p.1.length<=sizeLine then (jp g ft fe p.1 (kh nt cap p.2)).bind fun q=>.ok (.lst q.1,jq own q.2 nt cap p.2) else .bad
noncomputable def ctC (C:Ct) (nt len:Nat):Ct:=⟨C.K,C.cv,fun _ _ _=>False,ioC nt len,.sh,[],[],fun _ h=>absurd h (by simp)⟩
noncomputable def ftT:Sl->Out (Bool×Sl):=fun ρ=>.ok (true,ρ)
theorem jm {Y:Cx} {C:Ct} {own:List Nat}:PTs Y [] (tT C own ftT):=⟨fun pins s σ H Q I ⟨F,ρ,rp,h⟩=>qaZ pins s σ H Q I (h F H rp .refl)⟩
structure CW (C:Ct) (own:List Nat) (nt:Nat) (cap:List Nat) (σ:St) (F H F0:Hp) (g:D->Sl->Out Sl) (ft:Sl->Out (Bool×Sl)) (fe:Sl->Out (D×Sl)) (ds ys:List D) (ρe:Sl) (p:Addr) (i:Nat) (σ1:St) (H1:Hp) (F1:Hp) (ρi:Sl) (accD:List D) (xs:List V) (rest:List D):Prop where
 rep:Rep C.K (uf own nt cap) F1 H1 σ1 ρi
 io:∀ i∈ioC nt cap.length,σ1[i]?=(kh nt cap σ)[i]?
 chg:Chg (OA (uf own nt cap) σ1) F H F1 H1
 gr:Same F0 F1
 at_:H1 p=some (.lst xs)
 nF:F1 p=none
 is:IsL C.K F1 xs accD
 le:accD.length<=i
 run:jp g ft fe (ds.drop i) ρi=.ok (rest,ρe)
 all:accD++rest=ys
theorem WE {g:D->Sl->Out Sl} {ft:Sl->Out (Bool×Sl)} {fe:Sl->Out (D×Sl)} {d:D} {ds rest:List D} {ρ ρe:Sl} (h:jp g ft fe (d::ds) ρ=.ok (rest,ρe)) :
  ∃ ρ1,g d ρ=.ok ρ1/\∃ b ρ2,ft ρ1=.ok (b,ρ2)/\((b=true/\∃ y ρ3 r,fe ρ2=.ok (y,ρ3)/\jp g ft fe ds ρ3=.ok (r,ρe)/\rest=y::r)\/(b=false/\jp g ft fe ds ρ2=.ok (rest,ρe))):=by
 unfold jp yU at h
 cases q1:g d ρ with
 | exc c=>rw [q1] at h; cases h
 | bad=>rw [q1] at h; cases h
 | ok ρ1=>
  rw [q1] at h
  refine ⟨ρ1,rfl,?_⟩
  simp only [Out.plain,Out.ok_bind] at h
  cases q2:ft ρ1 with
  | exc c=>rw [q2] at h; cases h
  | bad=>rw [q2] at h; cases h
  | ok p=>
   obtain ⟨b,ρ2⟩:=p
   rw [q2] at h
   refine ⟨b,ρ2,rfl,?_⟩
   simp only [Out.plain,Out.ok_bind] at h
   cases b with
   | true=>
    refine .inl ⟨rfl,?_⟩
    simp only [if_true] at h
    cases q3:fe ρ2 with
    | exc c=>rw [q3] at h; cases h
    | bad=>rw [q3] at h; cases h
    | ok p=>
     obtain ⟨y,ρ3⟩:=p
     rw [q3] at h
     simp only [Out.plain,Out.ok_bind] at h
     cases q4:jp g ft fe ds ρ3 with
     | exc c=>rw [q4] at h; cases h
     | bad=>rw [q4] at h; cases h
     | ok p=>
      obtain ⟨r,ρ4⟩:=p
      rw [q4] at h
      simp only [Out.ok_bind] at h
      cases h
      exact ⟨y,ρ3,r,rfl,q4,rfl⟩
   | false=>
    refine .inr ⟨rfl,?_⟩
    simp only [Bool.false_eq_true,if_false,Out.ok_bind] at h
    cases q4:jp g ft fe ds ρ2 with
    | exc c=>rw [q4] at h; cases h
    | bad=>rw [q4] at h; cases h
    | ok p=>
     obtain ⟨r,ρ4⟩:=p
     rw [q4] at h
     simp only [Out.ok_bind] at h
     cases h
     rfl
section
variable {X:Cx} {C:Ct} {own cap:List Nat} {nt:Nat} {scope:Scope} {N:List Str} {tg elt iter:Expr} {ifs:List Expr} {pos:Pos} {fi:Sl->Out (List D×Sl)} {g:D->Sl->Out Sl} {ft:Sl->Out (Bool×Sl)} {fe:Sl->Out (D×Sl)} {me:Mo}
structure CapOk (X:Cx) (scope:Scope) (N:List Str) (nt:Nat) (cap:List Nat):Prop where
 nd:cap.Nodup
 len:N.length=nt+cap.length
 at_:∀ (j k:Nat),cap[j]?=some k->∃ x,N[nt+j]?=some x/\X.N[k]?=some x/\((Vis X.env.scope x/\(x,NameKind.free)∈scope.names)\/∀ k',(x,k')∉scope.names)
theorem QX {pins:List (Addr×Obj)} {s:Shared} {σ:St} {F H:Hp} {ρ1:Sl} {it:Addr} {fp:List Addr} {tn:Nat->Heap->Prop} {J:It} {E:Value->Shared->Prop} {ds ys:List D} {ρe:Sl} (I:Inv X pins σ H s) (hcalm:X.calm=true) (S:ScOk X scope) (CO:CapOk X scope N nt cap)
  (T:Turn X.prog X.w X.K tg J fp it tn) (st0:tn 0 s.heap) (hf:∀ b∈fp,JJ X pins H b) (rp:Rep C.K own F H σ ρ1) (itI:ItIs C.K F J ds) (hz:ds.length<=sizeLine)
  (hg:∀ fp L s' H',PG (jB X scope N fp L s' H') tg (tGd (ctC C nt cap.length) (uf own nt cap) g)) (ht:∀ fp L s' H',PTs (jB X scope N fp L s' H') ifs (tT (ctC C nt cap.length) (uf own nt cap) ft))
  (he:∀ fp L s' H',PE (jB X scope N fp L s' H') elt (tE (ctC C nt cap.length) (uf own nt cap) me fe)) (hme:me≠.any)
  (hrun:jp g ft fe ds (kh nt cap ρ1)=.ok (ys,ρe)) (RR:Value->Addr->Result->Shared->Prop)
  (hRR:∀ p L s' F' H',H p=none->Rep C.K own F' H' σ (jq own ρe nt cap ρ1)->Chg (OA own σ) F H F' H'->F' p=none->OwnIs C.K F' H' p (.lst ys)->(∃ m,s'.heap.Ns L m)->JJ X pins H' L->(∀ h',Heap.SameBut L s'.heap h'->Inv X pins σ H' { s' with heap:=h' })->RR (.ref p) L (.ok .next) s') :
  wpAny (model X.prog X.w) X.A (newList []) (fun acc s₃=>wpAny (model X.prog X.w) X.A (newFunctionEnv scope X.env.globals (Qz X.env.cells scope.names []) [] X.env.qual none .none (some X.env)) (fun cenv s₄=>
   codeAny (model X.prog X.w) X.A (.compStart (.ListComp elt [⟨tg,iter,ifs,0⟩] scope pos) 0 (.ref it) acc { cenv with scope:=relabel scope X.env }) (RR acc cenv.locals) s₄) E s₃) E s:=by
 have oaH:∀ {σ1:St} {b:Addr},(∀ i∈ioC nt cap.length,σ1[i]?=(kh nt cap σ)[i]?)->OA (uf own nt cap) σ1 b->H b≠none:=fun hio z=>(rp.OA_there (UW hio z)).1
 refine Zq (σc:=kh nt cap σ) I hcalm S T st0 hf hg ht (fun fp L s' H'=>uc (he fp L s' H') hme) (by rw [Kd,CO.len]) (fun j x v e1 e2 e3=>?_)
  (fun p i m σ1 H1=>H p=none/\m=ds.length - i/\i<=ds.length/\∃ F1 ρi accD xs rest,CW C own nt cap σ F H F g ft fe ds ys ρe p i σ1 H1 F1 ρi accD xs rest)
  (fun p H1=>H p=none/\∃ σ1 F1 xs,Rep C.K (uf own nt cap) F1 H1 σ1 ρe/\(∀ i∈ioC nt cap.length,σ1[i]?=(kh nt cap σ)[i]?)/\Chg (OA (uf own nt cap) σ1) F H F1 H1/\H1 p=some (.lst xs)/\F1 p=none/\IsL C.K F1 xs ys) (fun p hp=>?_) ?_ RR ?_
 ·obtain ⟨j',k,rfl,h1,h2⟩:=get_cap.mp e2
  obtain ⟨y,g1,g2,g3⟩:=CO.at_ j' k h1
  rw [g1] at e1; cases e1
  obtain ⟨k',hk'⟩:=e3
  rcases g3 with ⟨g3,g4⟩ | g3
  ·exact ⟨k,g2,h2,g3,g4⟩
  ·exact absurd hk' (g3 k')
 ·obtain ⟨r1,c1,hF⟩:=UQ (C:=C) (u:=.lst []) (qa0 (nt:=nt) rp CO.nd) hp
  exact ⟨ds.length,hp,by simp,Nat.zero_le _,F,kh nt cap ρ1,[],[],ys,r1,fun _ _=>rfl,c1.ofNo,Same.refl _,qo,hF,.nil,Nat.le_refl _,by simpa using hrun,rfl⟩
 ·rintro p i m σ1 H1 ⟨hp,rfl,hle,F1,ρi,accD,xs,rest,w⟩
  by_cases hlt:i < ds.length
  ·have hd:ds.drop i=ds[i]::ds.drop (i+1):=List.drop_eq_getElem_cons hlt
   have run:=w.run
   rw [hd] at run
   obtain ⟨ρa,ea,b,ρb,eb,hrest⟩:=WE run
   have sub1:Same F H1:=w.gr.trans w.rep.sub
   refine .inr ⟨itI.go i H1 hlt sub1,fun x H2 y=>?_⟩
   obtain ⟨F2,c2,s2,is2⟩:=itI.yld i F1 H1 x H2 ds[i] (by simp [hlt]) w.gr w.rep.sub y
   have rp2:=w.rep.grow c2 s2
   have nop:∀ {σ9:St},(∀ i∈ioC nt cap.length,σ9[i]?=(kh nt cap σ)[i]?)->¬OA (uf own nt cap) σ9 p:=fun hio z=>oaH hio z hp
   have keepP:∀ {A:Addr->Prop} {Fa Ha Fb Hb:Hp} {zs:List V},Chg A Fa Ha Fb Hb->¬A p->Ha p=some (.lst zs)->Fa p=none->Hb p=some (.lst zs)/\Fb p=none:=fun {A Fa Ha Fb Hb zs} c na e1 e2=>by
    refine ⟨c.keep p _ e1 na,?_⟩
    cases q:Fb p with
    | none=>rfl
    | some u=>
     rcases c.new p (by rw [q]; simp) with z | z | z
     ·exact absurd e2 z
     ·rw [e1] at z; cases z
     ·exact absurd z na
   obtain ⟨at2,nF2⟩:=keepP c2 (fun z=>z) w.at_ w.nF
   refine ⟨F2,ρi,ds[i],rp2,is2,ρa,ea,fun σ3 rp3 oa3 io3=>?_⟩
   have io3':∀ i∈ioC nt cap.length,σ3[i]?=(kh nt cap σ)[i]?:=fun i hi=>(io3 i hi).trans (w.io i hi)
   refine ⟨F2,ρa,rp3,?_⟩
   rw [eb]
   intro F4 H4 rp4 c4
   obtain ⟨at4,nF4⟩:=keepP c4 (nop io3') at2 nF2
   have chg4:Chg (OA (uf own nt cap) σ3) F H F4 H4:=by
    have q1:Chg (OA own σ) F H F1 H1:=w.chg.mono fun b z=>UW w.io z
    have mv:∀ {b},OA (uf own nt cap) σ1 b->OA (uf own nt cap) σ3 b:=fun {b} z=>by
     obtain ⟨i',hi',e'⟩:=z
     obtain ⟨j,k,rfl,g1,g2⟩:=mem_ownC.mp hi'
     have hm:nt+j∈ioC nt cap.length:=mem_ioC.mpr ⟨j,(List.getElem?_eq_some_iff.mp g1).1,rfl⟩
     exact ⟨nt+j,hi',by rw [io3' _ hm,<-w.io _ hm]; exact e'⟩
    exact ((w.chg.mono fun b z=>mv z).trans' c2.ofNo).trans' c4
   have gr4:Same F F4:=(w.gr.trans c2.grow).trans c4.grow
   have is4:IsL C.K F4 xs accD:=(w.is.mono c2.grow).mono c4.grow
   rcases hrest with ⟨rfl,y',ρc,r,ec,er,hr⟩ | ⟨rfl,er⟩
   ·rw [if_pos rfl]
    refine ⟨F4,ρb,rp4,?_⟩
    rw [ec]
    intro v F5 H5 rp5 c5 mo5
    obtain ⟨at5,nF5⟩:=keepP c5 (nop io3') at4 nF4
    have hlen:xs.length=accD.length:=is4.length
    refine ⟨xs,at5,by have:=w.le; omega,ds.length - (i+1),by omega,hp,rfl,hlt,F5,ρc,accD++[y'],xs++[v],r,?_⟩
    have cp:Chg (fun b=>b=p) F5 H5 F5 (upd H5 p (.lst (xs++[v]))):=⟨fun b o e n=>by rw [qA n]; exact e,fun b e=>by
     by_cases q:b=p
     ·rw [q,qo]; simp
     ·rw [qA q]; exact e,Same.refl _,fun b e=>.inl e⟩
    have sb5:Same F5 (upd H5 p (.lst (xs++[v]))):=fun b o e=>by rw [qA (qE e nF5)]; exact rp5.sub b o e
    have rp6:Rep C.K (uf own nt cap) F5 (upd H5 p (.lst (xs++[v]))) σ3 ρc:=by
     refine ⟨sb5,rp5.len,rp5.val,fun i d hi e=>?_,rp5.opn,rp5.dis⟩
     obtain ⟨a,h1,h2,h3⟩:=rp5.ow i d hi e
     have na:a≠p:=fun z=>by subst z; exact nop io3' ⟨i,hi,h1⟩
     exact ⟨a,h1,h2,h3.grow (Same.refl _) fun o z=>by rw [qA na]; exact z⟩
    refine ⟨rp6,io3',?_,(gr4.trans c5.grow),qo,nF5,(is4.mono c5.grow).append (.cons mo5 .nil),by simp only [List.length_append,List.length_cons,List.length_nil]; have:=w.le; omega,er,?_⟩
    ·exact (chg4.trans' c5).trans cp fun b z=>.inr (by rw [z]; exact hp)
    ·rw [List.append_assoc,<-w.all,hr]; rfl
   ·rw [if_neg Bool.false_ne_true]
    exact ⟨ds.length - (i+1),by omega,hp,rfl,hlt,F4,ρb,accD,xs,rest,rp4,io3',chg4,gr4,at4,nF4,is4,by have:=w.le; omega,er,w.all⟩
  ·have e:i=ds.length:=by omega
   subst e
   have run:=w.run
   rw [List.drop_length] at run
   unfold jp at run
   cases run
   have ha:=w.all
   rw [List.append_nil] at ha
   subst ha
   exact .inl ⟨itI.stop _ H1 (Nat.le_refl _) (w.gr.trans w.rep.sub),hp,σ1,F1,xs,w.rep,w.io,w.chg,w.at_,w.nF,w.is⟩
 ·rintro p L H' s' ⟨hp,σ1,F1,xs,r1,io1,c1,e1,n1,is1⟩ hns hfp hinv
  exact hRR p L s' F1 H' hp (UX rp CO.nd r1 io1 c1) (c1.mono fun b z=>UW io1 z) n1 ⟨xs,e1,is1⟩ hns hfp hinv
theorem Ke:∀ (ds:List D) (ρ:Sl) (c:Str) (o:Sl),jp g ft fe ds ρ≠.exc c o:=by
 intro ds
 induction ds with
 | nil=>intro ρ c o z; cases z
 | cons d ds ih=>
  intro ρ c o z
  unfold jp yU at z
  cases q1:g d ρ with
  | exc c=>rw [q1] at z; cases z
  | bad=>rw [q1] at z; cases z
  | ok ρ1=>
   rw [q1] at z
   simp only [Out.plain,Out.ok_bind] at z
   cases q2:ft ρ1 with
   | exc c=>rw [q2] at z; cases z
   | bad=>rw [q2] at z; cases z
   | ok p=>
    rw [q2] at z
    simp only [Out.plain,Out.ok_bind] at z
    by_cases hb:p.1=true
    ·rw [if_pos hb] at z
     cases q3:fe p.2 with
     | exc c=>rw [q3] at z; cases z
     | bad=>rw [q3] at z; cases z
     | ok r=>
      rw [q3] at z
      simp only [Out.plain,Out.ok_bind] at z
      cases q4:jp g ft fe ds r.2 with
      | exc c=>exact ih _ _ _ q4
      | bad=>rw [q4] at z; cases z
      | ok t=>rw [q4] at z; cases z
    ·rw [if_neg hb] at z
     simp only [Out.ok_bind] at z
     cases q4:jp g ft fe ds p.2 with
     | exc c=>exact ih _ _ _ q4
     | bad=>rw [q4] at z; cases z
     | ok t=>rw [q4] at z; cases z
theorem QY {σ:St} {F H:Hp} {ρ:Sl} {α:Type} {Z:Out (D×Sl)->Prop} (rp:Rep C.K own F H σ ρ) (hb:¬Z .bad) (hx:∀ c ρ',Z (.exc c ρ')->∀ F' H',Same F' H'->XG C.K C.ox F' H' σ ρ'->Chg (OA own σ) F H F' H'->C.E (C.cv c) none H') (h:Z (jn own nt cap fi g ft fe ρ)) :
  tIt C own fi σ H fun J H1=>∃ ds ρ1 ys ρe F1,ds.length<=sizeLine/\jp g ft fe ds (kh nt cap ρ1)=.ok (ys,ρe)/\Rep C.K own F1 H1 σ ρ1/\Chg (OA own σ) F H F1 H1/\ItIs C.K F1 J ds/\Z (.ok (.lst ys,jq own ρe nt cap ρ1)):=by
 refine ⟨F,ρ,rp,?_⟩
 unfold jn at h
 cases q:fi ρ with
 | exc c=>rw [q] at h; exact hx c _ h
 | bad=>rw [q] at h; exact (hb h).elim
 | ok p=>
  obtain ⟨ds,ρ1⟩:=p
  rw [q] at h
  have h:Z (if ds.length<=sizeLine then (jp g ft fe ds (kh nt cap ρ1)).bind fun q=>.ok (.lst q.1,jq own q.2 nt cap ρ1) else .bad):=h
  by_cases z:ds.length<=sizeLine
  ·rw [if_pos z] at h
   cases q2:jp g ft fe ds (kh nt cap ρ1) with
   | exc c=>exact absurd q2 (Ke _ _ _ _)
   | bad=>rw [q2] at h; exact (hb h).elim
   | ok p=>
    obtain ⟨ys,ρe⟩:=p
    rw [q2] at h
    exact fun J F1 H1 rp1 c1 it=>⟨ds,ρ1,ys,ρe,F1,z,q2,rp1,c1,it,h⟩
  ·rw [if_neg z] at h; exact (hb h).elim
theorem jI (hcalm:X.calm=true) (S:ScOk X scope) (CO:CapOk X scope N nt cap) (hi:PI X tg iter (tIt C own fi))
  (hg:∀ fp L s' H',PG (jB X scope N fp L s' H') tg (tGd (ctC C nt cap.length) (uf own nt cap) g)) (ht:∀ fp L s' H',PTs (jB X scope N fp L s' H') ifs (tT (ctC C nt cap.length) (uf own nt cap) ft))
  (he:∀ fp L s' H',PE (jB X scope N fp L s' H') elt (tE (ctC C nt cap.length) (uf own nt cap) me fe)) (hme:me≠.any:=by decide) (hs:∀ x,foldedSetIterable iter X.env x=pure x:=by intro _; rfl) :
  PE X (.ListComp elt [⟨tg,iter,ifs,0⟩] scope pos) (tE C own .fr (jn own nt cap fi g ft fe)):=by
 refine ⟨?_⟩
 intro pins s σ H Q I ⟨F,ρ,rp,h⟩
 rw [eval_ListComp]
 have main:=QY (α:=Unit) (Z:=fun r=>Po C own .fr σ F H r Q) rp (fun z=>z) (fun c _ z=>z) h
 refine wpAny_comprehension_free (use:=none) rfl hs (zW (xF I S)) S.kind S.names (thn (hi pins s σ H _ I main) fun xv s1 h1=>thn h1 fun itv s2 h2=>?_)
 obtain ⟨it,fp,tn,J,H2,e,I2,T,st2,f2,ds,ρ1,ys,ρe,F1,hz,hrun,rp1,c1,itI,po⟩:=h2
 subst e
 refine QX (RR:=fun acc C'=>compPost (model X.prog X.w) X.A X.xe none (EP X pins σ Q) acc C') I2 hcalm S CO T st2 f2 rp1 itI hz hg ht he hme hrun fun p L s' F' H' hp rp' c' nF o hns hfp hinv=>?_
 obtain ⟨m,hn⟩:=hns
 refine ⟨m,hn,fun h' sb=>⟨.ref p,H',hinv h' sb,rfl,?_⟩⟩
 refine po (.ref p) F' H' rp' (c1.trans' c') ⟨p,rfl,?_,nF,o⟩
 cases q:H p with
 | none=>rfl
 | some u=>exact absurd hp (c1.stay p (by rw [q]; simp))
theorem xg {i:Nat} {x:Str} {pos' spos:Pos} (hN:X.N.Nodup) (hix:X.N[i]?=some x) (hx:Loc X.env.scope x) (hcalm:X.calm=true) (S:ScOk X scope) (CO:CapOk X scope N nt cap) (hi:PI X tg iter (tIt C own fi))
  (hg:∀ fp L s' H',PG (jB X scope N fp L s' H') tg (tGd (ctC C nt cap.length) (uf own nt cap) g)) (ht:∀ fp L s' H',PTs (jB X scope N fp L s' H') ifs (tT (ctC C nt cap.length) (uf own nt cap) ft))
  (he:∀ fp L s' H',PE (jB X scope N fp L s' H') elt (tE (ctC C nt cap.length) (uf own nt cap) me fe)) (hme:me≠.any:=by decide) (hio:i∉C.io:=by exact Vj rfl)
  (hsw:swapsWith (.ListComp elt [⟨tg,iter,ifs,0⟩] scope pos) (some (.Name x pos')) spos.line X.env=pure true:=by rfl) (hs:∀ x,foldedSetIterable iter X.env x=pure x:=by intro _; rfl)
  (hfx:X.fn x=true\/X.env.scope.names.lookup x=some .local:=by first | exact .inl rfl | exact .inr rfl) :
  PS X (.Assign [.Name x pos'] (.ListComp elt [⟨tg,iter,ifs,0⟩] scope pos) spos) (tSt C own (i::vY own [i]) (jN i (jn own nt cap fi g ft fe))):=by
 refine ⟨?_⟩
 intro pins s σ H D I ⟨F,ρ,rp,h⟩
 rw [exec_Assign_Name_used _ _ _ _ hsw]
 refine wpAny_bind (wpAny_standAt (wpAny_bind ?_))
 show wpAny _ X.A (do let _ <-comprehension (.ListComp elt [⟨tg,iter,ifs,0⟩] scope pos) scope X.env _ (newList []) false (eval iter X.env) (some (assign (.Name x pos') X.env))) _ _ s
 have main:=QY (α:=Unit) (Z:=fun r=>PoS C own (i::vY own [i]) σ F H (r.bind fun p=>if i < p.2.length then .ok (.nx,p.2.set i (some p.1)) else .bad) D) rp (fun z=>z) (fun c _ z=>z) h
 refine wpAny_bind (wpAny_mono (wpAny_comprehension_free (use:=some (assign (.Name x pos') X.env)) (Q:=fun _ s'=>SP X pins D .next s') rfl hs (zW (xF I S)) S.kind S.names (thn (hi pins s σ H _ I main) fun xv s1 h1=>thn h1 fun itv s2 h2=>?_)) (fun _ s' hq=>wpAny_pure (wpAny_pure hq)) fun _ _ e=>e)
 obtain ⟨it,fp,tn,J,H2,e,I2,T,st2,f2,ds,ρ1,ys,ρe,F1,hz,hrun,rp1,c1,itI,po⟩:=h2
 subst e
 refine QX (RR:=fun acc C'=>compPost (model X.prog X.w) X.A X.xe (some (assign (.Name x pos') X.env)) (fun _ s'=>SP X pins D .next s') acc C') I2 hcalm S CO T st2 f2 rp1 itI hz hg ht he hme hrun fun p L s' F' H' hp rp' c' nF o hns hfp hinv=>?_
 obtain ⟨m,hn⟩:=hns
 have I3:Inv X pins σ H' s':=by simpa using hinv s'.heap (.refl ..)
 have hH:H p=none:=by
  cases q:H p with
  | none=>rfl
  | some u=>exact absurd hp (c1.stay p (by rw [q]; simp))
 show wpAny _ X.A (assign (.Name x pos') X.env (.ref p)) _ _ s'
 refine wpAny_assign_Name (QE I3 hN hix hx (v:=.ref p) rfl (fun s4 I4 ⟨a,sba,ha⟩=>?_) hfx)
 obtain ⟨f0,f1,f2',f3,f4,f5⟩:=hfp
 have nL:L≠a:=by
  rcases ha with z | z
  ·rw [z]; exact f1
  ·exact fun q=>f4 x a z q.symm
 refine ⟨m,hn.sameBut sba nL,fun h' sb=>?_⟩
 have I5:Inv X pins (σ.set i (some (.ref p))) H' { s4 with heap:=h' }:=by
  have:=I4.turned (h':=h') (t':=s4.toks) (it:=L) (fun b o hb e=>(sb.2 b hb).trans e) f0 f1 f3 f4 f5
  exact this
 refine ⟨_,H',I5,?_⟩
 have po:PoS C own (i::vY own [i]) σ F H (if i < (jq own ρe nt cap ρ1).length then .ok (.nx,(jq own ρe nt cap ρ1).set i (some (.lst ys))) else .bad) D:=po
 by_cases z:i < (jq own ρe nt cap ρ1).length
 ·rw [if_pos z] at po
  refine po _ F' H' ⟨rp'.putO z nF (fun y=>(rp.OA_there y).1 hH) o,c1.trans' c',fun b y=>?_,fun j hj=>List.getElem?_set_ne fun y=>hio (by rw [y]; exact hj)⟩
  obtain ⟨j,hj,e⟩:=y
  by_cases qj:j=i
  ·subst qj
   rw [List.getElem?_set_self (by rw [rp'.len]; exact z)] at e
   cases e
   exact .inr hH
  ·have hj':=(qT j).mp ((List.mem_cons.mp hj).resolve_left qj)
   rw [List.getElem?_set_ne (Ne.symm qj)] at e
   exact .inl ⟨j,hj'.1,e⟩
 ·rw [if_neg z] at po; exact po.elim
end
def Fly (h:Heap) (ex T:Addr) (cls:Value):Prop:=∃ oe vs oT ts,h.get? ex=some oe/\oe.cls=cls/\oe.data=.fields vs/\vs[1]?=some (.ref T)/\T≠ex/\h.get? T=some oT/\oT.data=.fields ts/\ts[3]?=some .none
def CXk (P:Program) (w:World):CXT:=fun outer H s E e s'=>∃ ex T C H',e=.ref ex/\s'.os=s.os/\AllBare s'.gens/\Un (frs outer) [] H H' s.heap s'.heap/\HOk P w H' s'.heap/\Fly s'.heap ex T (.ref C)/\H' ex=none/\H' T=none/\s.heap.get? ex=none/\s.heap.get? T=none/\E (.ref C) none H'
def InB (X:Cx) (H:Hp) (s:Shared) (ex:Addr) (cls:Value):Prop:=H ex=none/\X.s₀.heap.get? ex=none /\
 ((∃ oe vs,s.heap.get? ex=some oe/\oe.cls=cls/\oe.data=.fields vs/\vs[1]?=some .none)\/∃ T,Fly s.heap ex T cls/\H T=none/\X.s₀.heap.get? T=none)
section
variable {X:Cx} {pins:List (Addr×Obj)} {σ:St} {H:Hp} {s:Shared} {ex:Addr} {cls:Value}
theorem InB.dat (h:InB X H s ex cls):∃ oe vs,s.heap.get? ex=some oe/\oe.cls=cls/\oe.data=.fields vs:=by
 rcases h.2.2 with ⟨oe,vs,a,b,c,_⟩ | ⟨T,⟨oe,vs,oT,ts,a,b,c,_⟩,_⟩
 ·exact ⟨oe,vs,a,b,c⟩
 ·exact ⟨oe,vs,a,b,c⟩
noncomputable def QZ (ex:Addr) (T:Option Addr) (X:Cx):List Addr:=ex::(T.toList++frs X.stack)
theorem Vx (I:Inv X pins σ H s) {b:Addr} (hb:b∈frs X.stack):∃ o,s.heap.get? b=some o/\∀ vs,o.data≠.fields vs:=(I.stack.mem hb).2
theorem UY (hs:X.stack=X.env::X.outer):∀ env∈X.stack,∀ b,env.frame=some b->b∈frs X.stack:=fun env he b hb=>List.mem_filterMap.mpr ⟨env,he,hb⟩
structure Gone (X:Cx) (H:Hp) (s:Shared) (ex:Addr) (cls:Value) (h2:Heap):Prop where
 keep:∀ b o,s.heap.get? b=some o->H b≠none\/(X.s₀.heap.get? b≠none/\b∉frs X.stack)->h2.get? b=some o
 slot:∀ b o,s.heap.get? b=some o->b∈frs X.stack->∃ sl,h2.get? b=some { o with slots:=sl }
 ok:HOk X.prog X.w H h2
 un:Un (frs X.stack) [] H H s.heap h2\/True
theorem UZ {T0:Option Addr} {h2:Heap} (I:Inv X pins σ H s) (hex:H ex=none) (hT:∀ T,T0=some T->H T=none) (n1:X.s₀.heap.get? ex=none) (n2:∀ T,T0=some T->X.s₀.heap.get? T=none)
  (st:(PySem.W.hideAll s.heap (QZ ex T0 X)).StaysIn h2) (sl:∀ b o,s.heap.get? b=some o->(∀ vs,o.data≠.fields vs)->∃ sl,h2.get? b=some { o with slots:=sl }):Gone X H s ex cls h2:=by
 have keep:∀ b o,s.heap.get? b=some o->b≠ex->(∀ T,T0=some T->b≠T)->b∉frs X.stack->h2.get? b=some o:=fun b o e h1 h2 h3=>st b o (PySem.W.hideAll_get _ e fun hm=>by
  rcases List.mem_cons.mp hm with q | hm
  ·exact h1 q
  ·rcases List.mem_append.mp hm with q | q
   ·exact h2 b (Option.mem_toList.mp q) rfl
   ·exact h3 q)
 have k1:∀ b o,s.heap.get? b=some o->H b≠none->h2.get? b=some o:=fun b o e hn=>keep b o e (fun q=>hn (by rw [q]; exact hex)) (fun T hT' q=>hn (by rw [q]; exact hT T hT')) fun q=>hn (I.stkFree b q)
 refine ⟨fun b o e hb=>?_,fun b o e hb=>?_,fun b u e=>?_,.inr trivial⟩
 ·rcases hb with hb | ⟨hb,hf⟩
  ·exact k1 b o e hb
  ·exact keep b o e (fun q=>hb (by rw [q]; exact n1)) (fun T hT' q=>hb (by rw [q]; exact n2 T hT')) hf
 ·obtain ⟨o',e',nf⟩:=Vx I hb
  rw [e] at e'; cases e'
  exact sl b o e nf
 ·refine (I.hok b u e).stay (fun c v hc q=>k1 c v q ?_) (fun _ q=>q) fun _ _ q=>q
  rcases hc with z | z
  ·rw [z,e]; simp
  ·rw [z]; simp
theorem Ja {T0:Option Addr} {h2:Heap} (I:Inv X pins σ H s) (hT:∀ T,T0=some T->H T=none) (n2:∀ T,T0=some T->X.s₀.heap.get? T=none) (g:Gone X H s ex cls h2) (hex0:X.ex=[])
  (tr:h2.Traced (PySem.W.hideAll s.heap (QZ ex T0 X)) ex cls):∃ T,Fly h2 ex T cls/\H T=none/\X.s₀.heap.get? T=none:=by
 obtain ⟨oe,vs,T,oT,ts,a1,a2,a3,a4,a5,a6,a7,a8,a9⟩:=tr
 have noS:∀ o,s.heap.get? T=some o->(∃ q,T0=some q/\T=q):=fun o e=>by
  have hm:T∈QZ ex T0 X:=by
   refine Classical.byContradiction fun hn=>?_
   rw [PySem.W.hideAll_get _ e hn] at a5
   cases a5
  rcases List.mem_cons.mp hm with q | hm
  ·exact absurd q a6
  ·rcases List.mem_append.mp hm with q | q
   ·exact ⟨T,Option.mem_toList.mp q,rfl⟩
   ·obtain ⟨o',e',nf⟩:=Vx I q
    obtain ⟨sl,e2⟩:=g.slot T o' e' q
    rw [a7] at e2
    cases e2
    exact absurd a8 (nf ts)
 refine ⟨T,⟨oe,vs,oT,ts,a1,a2,a3,a4,a6,a7,a8,a9⟩,?_,?_⟩
 ·cases q:H T with
  | none=>rfl
  | some u=>
   have hlt:=I.hok.lt q
   obtain ⟨o,e⟩:∃ o,s.heap.get? T=some o:=by
    have:=(I.hok T u q)
    have st:=this.stay (H':=H) (h':=s.heap) (fun b v _ z=>z) (fun _ z=>z) fun _ _ z=>z
    cases z:s.heap.get? T with
    | some o=>exact ⟨o,rfl⟩
    | none=>
     exfalso
     cases u with
     | lst xs=>obtain ⟨_,_,_,_,e⟩:=st; rw [z] at e; cases e
     | tup xs=>obtain ⟨_,_,_,_,e,_⟩:=st; rw [z] at e; cases e
     | dK kvs=>obtain ⟨_,_,_,_,o,_,_,e,_⟩:=st; rw [z] at e; cases e
     | dT kvs=>obtain ⟨_,_,_,_,o,_,_,e,_⟩:=st; rw [z] at e; cases e
     | set S n=>obtain ⟨o,_,_,_,e,_⟩:=st; rw [z] at e; cases e
     | ins C dx fs=>obtain ⟨_,_,_,e,_⟩:=st; rw [z] at e; cases e
     | own y=>obtain ⟨_,e⟩:=st; rw [z] at e; cases e
     | xd fs=>obtain ⟨_,⟨_,_,_,e,_⟩,_⟩:=st; rw [z] at e; cases e
     | rng lo hi=>obtain ⟨_,_,_,e⟩:=st; rw [z] at e; cases e
     | frz ob u=>obtain ⟨e,_⟩:=st; rw [z] at e; cases e
     | tbl ps=>have e:s.heap.get? T=some _:=st; rw [z] at e; cases e
     | met f y=>have e:s.heap.get? T=some _:=st; rw [z] at e; cases e
     | ext φ=>obtain ⟨_,⟨_,e⟩,_⟩:=st; rw [z] at e; cases e
   obtain ⟨q',hq',rfl⟩:=noS o e
   rw [hT _ hq'] at q; cases q
 ·cases q:X.s₀.heap.get? T with
  | none=>rfl
  | some o=>
   obtain ⟨o',e'⟩:=I.base.there T o q (by rw [hex0]; simp)
   obtain ⟨q',hq',rfl⟩:=noS o' e'
   rw [n2 _ hq'] at q; cases q
theorem WF {E:Value->Shared->Prop} {Q:Unit->Shared->Prop} (I:Inv X pins σ H s) (hstk:X.stack=X.env::X.outer) (hfr:X.env.frame=some X.env.locals) (hex0:X.ex=[]) (x:InB X H s ex cls)
  (k:∀ h2 T,Gone X H s ex cls h2->Fly h2 ex T cls->H T=none->X.s₀.heap.get? T=none->Q () { s with heap:=h2 }):wpAny (model X.prog X.w) X.A (leaving X.env (.ref ex)) Q E s:=by
 obtain ⟨hex,n1,hx⟩:=x
 have hF:X.A.frames=some (X.env::X.outer):=by rw [I.ok.frames,hstk]
 have hB:∀ as,(PySem.W.hideAll s.heap as).StaysIn s.heap:=fun as b o e=>PySem.W.of_hideAll as e
 have hl:∀ T0,s.heap.FunFrames (PySem.W.hideAll s.heap (QZ ex T0 X)) (X.env::X.outer):=fun T0=>by
  rw [<-hstk]
  exact PySem.W.funFrames_hide I.stack fun env he b hb=>List.mem_cons_of_mem _ (List.mem_append_right _ (UY hstk env he b hb))
 have hn:∀ T0,(PySem.W.hideAll s.heap (QZ ex T0 X)).get? ex=none:=fun T0=>PySem.W.hideAll_none _ (List.mem_cons.mpr (.inl rfl))
 rcases hx with ⟨oe,vs,a1,a2,a3,a4⟩ | ⟨T,⟨oe,vs,oT,ts,a1,a2,a3,a4,a5,a6,a7,a8⟩,hT,n2⟩
 ·refine wpAny_leaving_first (base:=PySem.W.hideAll s.heap (QZ ex none X)) hF (hl none) hfr a1 (hB _) (hn none) a3 a4 fun h2 ⟨st,_,tr,sl⟩=>?_
  have g:Gone X H s ex cls h2:=UZ I hex (T0:=none) (fun _ z=>nomatch z) n1 (fun _ z=>nomatch z) st sl
  rw [a2] at tr
  obtain ⟨T',f1,f2,f3⟩:=Ja I (T0:=none) (fun _ z=>nomatch z) (fun _ z=>nomatch z) g hex0 tr
  exact k h2 T' g f1 f2 f3
 ·have hT':∀ T1,some T=some T1->H T1=none:=fun T1 z=>by cases z; exact hT
  have n2':∀ T1,some T=some T1->X.s₀.heap.get? T1=none:=fun T1 z=>by cases z; exact n2
  have tr0:s.heap.Traced (PySem.W.hideAll s.heap (QZ ex (some T) X)) ex cls:=⟨oe,vs,T,oT,ts,a1,a2,a3,a4,PySem.W.hideAll_none _ (List.mem_cons_of_mem _ (List.mem_append_left _ (by simp))),a5,a6,a7,a8⟩
  refine wpAny_leaving_next (base:=PySem.W.hideAll s.heap (QZ ex (some T) X)) hF (hl (some T)) hfr tr0 (hB _) (hn _) fun h2 ⟨st,_,tr,sl⟩=>?_
  have g:Gone X H s ex cls h2:=UZ I hex hT' n1 n2' st sl
  obtain ⟨T',f1,f2,f3⟩:=Ja I hT' n2' g hex0 tr
  exact k h2 T' g f1 f2 f3
end
section
variable {P:Program} {w:World} {K:Frag} {mg:Str->Option Value} {base:Heap} {N:List Str} {qual:Str} {scope:Scope} {f:Addr} {cd:Value} {A:Around} {outer:List Env} {s0:Shared} {H0:Hp} {E:XK}
abbrev cxk (P:Program) (w:World) (K:Frag) (mg:Str->Option Value) (base:Heap) (N:List Str) (qual:Str) (scope:Scope) (f:Addr) (cd:Value) (A:Around) (outer:List Env) (s0:Shared) (H0:Hp) (E:XK):Cx:=qaA (CXk P w) P w K mg base N qual scope f cd A outer s0 H0 E
theorem qcO {pins:List (Addr×Obj)} {σ:St} {H:Hp} {s:Shared} {ex C:Addr} (I:Inv (cxk P w K mg base N qual scope f cd A outer s0 H0 E) pins σ H s) (x:InB (cxk P w K mg base N qual scope f cd A outer s0 H0 E) H s ex (.ref C)) (hE:E (.ref C) none H) :
  (cxk P w K mg base N qual scope f cd A outer s0 H0 E).xe (.ref ex) s:=by
 refine WF I rfl rfl rfl x fun h2 T g fl hT nT=>?_
 have bs0:=I.base
 have neL:∀ b o,s0.heap.get? b=some o->b≠(cxk P w K mg base N qual scope f cd A outer s0 H0 E).env.locals:=fun b o e=>Nat.ne_of_lt (Nat.lt_of_lt_of_le (Heap.lt_size e) I.ok.above)
 have nst:∀ b o,s0.heap.get? b=some o->b∉frs outer->b∉frs (cxk P w K mg base N qual scope f cd A outer s0 H0 E).stack:=fun b o e hb z=>by
  rcases List.mem_cons.mp (I.stkSub b z) with q | q
  ·exact neL b o e q
  ·exact hb q
 have ist:∀ b,b∈frs outer->b∈frs (cxk P w K mg base N qual scope f cd A outer s0 H0 E).stack:=fun b hb=>by
  show b∈frs (_::outer)
  unfold frs
  rw [List.filterMap_cons]
  exact List.mem_cons_of_mem _ hb
 refine ⟨ex,T,C,H,rfl,I.os,I.bare,⟨fun b o e n hb hx=>?_,fun b o e n hb hx=>?_,bs0.free,fun b o e hx=>?_,bs0.tups,bs0.frzs,bs0.tbls⟩,g.ok,fl,x.1,hT,x.2.1,nT,hE⟩
 ·exact g.keep b o (bs0.keep b o e n hb hx) (.inr ⟨by show s0.heap.get? b≠none; rw [e]; simp,nst b o e hb⟩)
 ·obtain ⟨sl,q⟩:=bs0.slot b o e n hb hx
  obtain ⟨sl2,q2⟩:=g.slot b _ q (ist b hb)
  exact ⟨sl2,q2⟩
 ·obtain ⟨o',q⟩:=bs0.there b o e hx
  by_cases hb:b∈frs (cxk P w K mg base N qual scope f cd A outer s0 H0 E).stack
  ·obtain ⟨sl,q2⟩:=g.slot b o' q hb
   exact ⟨_,q2⟩
  ·exact ⟨o',g.keep b o' q (.inr ⟨by show s0.heap.get? b≠none; rw [e]; simp,hb⟩)⟩
theorem qa1 {X:Cx} {pins:List (Addr×Obj)} {σ:St} {H:Hp} {s s':Shared} {e:Value} (hex0:X.ex=[]) (I:Inv X pins σ H s) (h:CXk X.prog X.w X.stack H s E e s'):∃ ex C H',e=.ref ex/\Inv X pins σ H' s'/\InB X H' s' ex (.ref C)/\E (.ref C) none H':=by
 obtain ⟨ex,T,C,H',rfl,os,bare,un,hok,fl,e1,e2,n1,n2,hE⟩:=h
 have old:∀ b,s.heap.get? b=none->X.s₀.heap.get? b=none:=fun b hb=>by
  cases q:X.s₀.heap.get? b with
  | none=>rfl
  | some o=>
   obtain ⟨o',e'⟩:=I.base.there b o q (by rw [hex0]; simp)
   rw [hb] at e'; cases e'
 exact ⟨ex,C,H',rfl,I.call' (ch:=[]) os un hok bare (fun b z=>absurd z (by simp)),⟨e1,old ex n1,.inr ⟨T,fl,e2,old T n2⟩⟩,hE⟩
theorem qJ:zU (CXk P w) (cxk P w K mg base N qual scope f cd A outer s0 H0 E) E:=fun pins σ H s e s' I h=>by
 obtain ⟨ex,C,H',rfl,I',x,hE⟩:=qa1 rfl I h
 exact qcO I' x hE
theorem qa2 {h:Heap} {C:Addr} {bmB:List Value} {newId:String} {x:Str} (kin:K.In h) (hm:mg x=some (.ref C)) (q:PySem.W.excIn K C bmB newId=true):OwnCls x C bmB newId mg h:=by
 refine ⟨hm,?_⟩
 unfold PySem.W.excIn at q
 split at q
 case h_2=>cases q
 case h_1 dd cd sl lk=>
  split at q
  case h_2=>cases q
  case h_1 C' bm a0 a1 a2 a3 n a5 em es=>
   have q':=q
   simp only [Bool.and_eq_true,beq_iff_eq,Bool.not_eq_true'] at q'
   obtain ⟨⟨⟨⟨⟨e1,e2⟩,nodel⟩,tl⟩,nsok⟩,noinit⟩:=q'
   obtain ⟨nm,bs,mro,ns,qn,hd,sn,sub,ab,col,del⟩:=cd
   dsimp only at em nodel nsok noinit
   obtain ⟨sll⟩:=sl
   dsimp only at es
   subst em nodel es e1 e2
   exact ⟨bm,ns,nm,qn,bs,hd,sn,sub,ab,col,dd,a0,a1,a2,a3,a5,_,kin _ _ lk,.of_isNs (PySem.W.isNs_of_in kin nsok),PySem.W.nsMap_none_of_in kin nsok noinit,PySem.W.tail_of_in kin tl⟩
end
theorem qcP {P:Program} {w:World} {H:Hp} {h:Heap} {T:Addr} {u:HO} (hok:HOk P w H h) (q:H T=some u):∃ o,h.get? T=some o:=by
 have st:=hok T u q
 cases z:h.get? T with
 | some o=>exact ⟨o,rfl⟩
 | none=>
  exfalso
  cases u with
  | lst xs=>obtain ⟨_,_,_,_,e⟩:=st; rw [z] at e; cases e
  | tup xs=>obtain ⟨_,_,_,_,e,_⟩:=st; rw [z] at e; cases e
  | dK kvs=>obtain ⟨_,_,_,_,o,_,_,e,_⟩:=st; rw [z] at e; cases e
  | dT kvs=>obtain ⟨_,_,_,_,o,_,_,e,_⟩:=st; rw [z] at e; cases e
  | set S n=>obtain ⟨o,_,_,_,e,_⟩:=st; rw [z] at e; cases e
  | ins C dx fs=>obtain ⟨_,_,_,e,_⟩:=st; rw [z] at e; cases e
  | own y=>obtain ⟨_,e⟩:=st; rw [z] at e; cases e
  | xd fs=>obtain ⟨_,⟨_,_,_,e,_⟩,_⟩:=st; rw [z] at e; cases e
  | rng lo hi=>obtain ⟨_,_,_,e⟩:=st; rw [z] at e; cases e
  | frz ob u=>obtain ⟨e,_⟩:=st; rw [z] at e; cases e
  | tbl ps=>have e:h.get? T=some _:=st; rw [z] at e; cases e
  | met f y=>have e:h.get? T=some _:=st; rw [z] at e; cases e
  | ext φ=>obtain ⟨_,⟨_,e⟩,_⟩:=st; rw [z] at e; cases e
abbrev bmV:List Value:=[.type "ValueError",.type "Exception",.type "BaseException",.type "object"]
noncomputable def yb (x:Str) (fr:Sl->Out (List D×Sl)):Sl->Out (Fl×Sl):=fun ρ=>(fr ρ).bind fun p=>.exc x p.2
theorem PoS.bindA {C:Ct} {own own':List Nat} {as:List AK} {σ:St} {F H:Hp} {o:Out (List D×Sl)} {k:List D×Sl->Out (Fl×Sl)} {D:Ends} {R:List V->Hp->Prop} (hp:PoS C own own' σ F H (o.bind k) D)
  (h:∀ vs F1 H1 ds ρ1,Rep C.K own F1 H1 σ ρ1->Chg (OA own σ) F H F1 H1->ArgV C.K H F1 H1 σ as vs ds->PoS C own own' σ F1 H1 (k (ds,ρ1)) D->R vs H1):PoA C own as σ F H o R:=by
 cases o with
 | ok p=>
  obtain ⟨ds,ρ1⟩:=p
  exact fun vs F1 H1 rp c av=>h vs F1 H1 ds ρ1 rp c av (PoS.shift (show PoS C own own' σ F H (k (ds,ρ1)) D from hp) (.ofE rp c))
 | exc x=>exact hp
 | bad=>exact hp.elim
def Yb (X:Cx) (C:Ct):Prop:=∀ (pins:List (Addr×Obj)) (σ:St) (H:Hp) (s:Shared) (ex A:Addr),Inv X pins σ H s->InB X H s ex (.ref A)->C.E (.ref A) none H->X.xe (.ref ex) s
theorem qcQ {P:Program} {w:World} {K:Frag} {mg:Str->Option Value} {base:Heap} {N:List Str} {qual:Str} {scope:Scope} {f:Addr} {cd:Value} {A:Around} {outer:List Env} {s0:Shared} {H0:Hp} {C:Ct}:Yb (cxk P w K mg base N qual scope f cd A outer s0 H0 C.E) C:=fun pins σ H s ex A I x hE=>qcO I x hE
section
variable {X:Cx} {C:Ct} {own own':List Nat} {as:List AK} {e:Expr} {es:List Expr} {fr:Sl->Out (List D×Sl)} {x:Str} {Cc:Addr} {np cpos pos:Pos}
theorem ArgV.len {K:Frag} {H0 F H:Hp} {σ:St}:∀ {as:List AK} {vs:List V} {ds:List D},ArgV K H0 F H σ as vs ds->vs.length=as.length
 | [],[],[],_=>rfl
 | .vl::as,v::vs,d::ds,h=>congrArg (·+1) (ArgV.len h.2)
 | .sl i::as,v::vs,d::ds,h=>congrArg (·+1) (ArgV.len h.2.2)
 | .fr::as,v::vs,d::ds,h=>congrArg (·+1) (ArgV.len h.2)
 | [],_::_,_,h=>h.elim
 | [],[],_::_,h=>h.elim
 | .vl::_,[],_,h=>h.elim
 | .vl::_,_::_,[],h=>h.elim
 | .sl _::_,[],_,h=>h.elim
 | .sl _::_,_::_,[],h=>h.elim
 | .fr::_,[],_,h=>h.elim
 | .fr::_,_::_,[],h=>h.elim
theorem uA (hx0:X.ex=[]) (ht:Yb X C) (hcalm:X.calm=true) (hg:Gl X x) (hm:X.mg x=some (.ref Cc)) (hcv:C.cv x=.ref Cc) (q:PySem.W.excIn X.K Cc bmV "ValueError.__new__"=true) (ha:PA X (e::es) (tAr C own as fr)) (hsz:as.length<=1000:=by decide) (hio:∀ i∈C.ox,i∈own:=by exact xz rfl) (hd:(x == ("__debug__":Str))=false:=by decide)
  (he:starEach (e::es) X.env=(false,eval e X.env)::starEach es X.env:=by exact kw rfl) (hpl:(backTo cpos (starEach es X.env)).any (·.1)=false:=by rfl) :
  PS X (.Raise (some (.Call (.Name x np) (e::es) [] cpos)) none pos) (tSt C own own' (yb x fr)):=by
 refine ⟨?_⟩
 intro pins s σ H D I ⟨F,ρ,rp,h⟩
 obtain ⟨tl,N,nm,qn,bs,hdct,sn,sub,ab,col,dd,k0,k1,k2,k3,k5,mN,hC,hN,hni,T⟩:=(qa2 I.ok.mod.kin hm q).obj
 refine wpAny_Raise_call_subT (C:=Cc) (nm:=nm) (q:=qn) (N:=N) (bs:=bs) (bm:=tl) (hdct:=hdct) (sn:=sn) (sub:=sub) (ab:=ab) (col:=col) (dd:=dd) (k0:=k0) (k1:=k1) (k2:=k2) (k3:=k3) (k5:=k5)
  PySem.F.excBase_ValueError (mN:=mN) (T.hasType PySem.F.excBase_ValueError.hasBase) (I.ok.hd hcalm) (by rw [he]; show (false||(backTo cpos (starEach es X.env)).any (·.1))=false; rw [hpl]; rfl) hni (JT I hg hm ⟨rfl,?_⟩ hd)
 have main:tAr C own as fr σ H fun vs H1=>vs.length<=sizeLine/\C.E (.ref Cc) none H1:=by
  refine ⟨F,ρ,rp,PoS.bindA h fun vs F1 H1 ds ρ1 rp1 c1 av h1=>⟨?_,?_⟩⟩
  ·rw [av.len]; exact Nat.le_trans hsz (by rw [sizeLine_eq]; decide)
  ·rw [<-hcv]; exact h1 F1 H1 rp1.sub (rp1.ioIs hio) .refl
 have run:=ha cpos pins s σ H _ I main
 rw [he] at run ⊢
 refine Calls.evalArgs_plain (wpAny_mono run (fun us s2 ⟨vs,H2,I2,r2,z2,hE⟩=>?_) fun _ _ y=>y)
 refine ⟨rfl,by rw [<-r2.length]; exact z2,I2.bk _ _ hC,hN.keeps I2.bk,T.keeps I2.bk,fun h' ex mk=>?_⟩
 have I3:Inv X pins σ H2 { s2 with heap:=h' }:=I2.kept (t':=s2.toks) mk.keeps
 obtain ⟨t,h1,h2,h3⟩:=mk.there
 refine ht pins σ H2 _ ex Cc I3 ⟨?_,?_,.inl ⟨_,_,h1,rfl,rfl,rfl⟩⟩ hE
 ·cases q2:H2 ex with
  | none=>rfl
  | some u=>
   have hlt:=I2.hok.lt q2
   refine absurd mk.new ?_
   obtain ⟨o,e⟩:=qcP I2.hok q2
   rw [e]; simp
 ·cases q2:X.s₀.heap.get? ex with
  | none=>rfl
  | some o=>
   obtain ⟨o',e'⟩:=I2.base.there ex o q2 (by rw [hx0]; simp)
   rw [mk.new] at e'; cases e'
end
structure Caught (X:Cx) (pins:List (Addr×Obj)) (H:Hp) (s:Shared) (ex T Cc:Addr):Prop where
 fly:Fly s.heap ex T (.ref Cc)
 hex:H ex=none
 hT:H T=none
 n1:X.s₀.heap.get? ex=none
 n2:X.s₀.heap.get? T=none
 pp:∀ p∈X.pn++pins,p.1≠ex/\p.1≠T
section
variable {X:Cx} {pins:List (Addr×Obj)} {σ:St} {H:Hp} {s:Shared} {ex T Cc:Addr}
theorem Caught.dT (c:Caught X pins H s ex T Cc):∃ oe vs,s.heap.get? T=some oe/\oe.data=.fields vs:=let ⟨oe,vs,oT,ts,a1,a2,a3,a4,a5,a6,a7,_⟩:=c.fly; ⟨oT,ts,a6,a7⟩
end
def DefOk (P:Program) (w:World) (K:Frag) (mg:Str->Option Value) (base:Heap) (cv:Str->Value) (k:Nat) (x:Str) (ps:List Str) (ms:List PM) (mr:Mo) (G:List D->Out (D×List D)):Prop:=
 ∃ f fd,FnOk P w K mg base (CXk P w) k f fd ps (spD K cv ms mr G)/\mg x=some (.ref f)/\keepIn K (.ref f)=true/\Binds K fd ps []
def qV (K:Frag) (mg:Str->Option Value) (x:Str) (st:Stmt) (ps:List Str):Prop:=∃ f fd,Fun K x x st f fd/\mg x=some (.ref f)/\Binds K fd ps []
theorem qI {P:Program} {w:World} {K:Frag} {mg:Str->Option Value} {base:Heap} {cv:Str->Value} {x:Str} {st:Stmt} {N ps:List Str} {k:Nat} {ms:List PM} {mr:Mo} {own':List Nat} {fb:Sl->Out (Fl×Sl)} (T:qV K mg x st ps) (S:FnScope N ps (qf st))
  (hbody:∀ (cdv:Value) (f:Addr) (A:Around) (outer:List Env) (s:Shared) (H:Hp) (E:XK),Room k (A.deeper (envOfC x (qf st) s.heap.objs.size f cdv)) ->
   PSs (cxk P w K mg base N x (qf st) f cdv A outer s H E) (vD st) (tSt (qeC K cv E ms mr) (jR 0 ms) own' fb))
  (hl:ms.length=ps.length:=by rfl) (hsub:∀ i∈WC 0 ms,i∈own':=by exact xz rfl) (hmr:mr=.sh\/∀ ds ρ,(fb (qw N ds))≠.ok (.nx,ρ):=by exact .inl rfl):DefOk P w K mg base cv (k+1) x ps ms mr (ke N ms fb):=by
 obtain ⟨f,fd,F,hm,hb⟩:=T
 exact ⟨f,fd,qfa F S hl hsub hmr (fun cdv A outer s H E hr=>hbody cdv f A outer s H E hr) fun _=>.inr rfl,hm,F.kp,hb⟩
theorem DefOk.by {P:Program} {w:World} {K:Frag} {mg:Str->Option Value} {base:Heap} {cv:Str->Value} {k:Nat} {x:Str} {ps:List Str} {ms:List PM} {mr:Mo} {G G':List D->Out (D×List D)} (h:DefOk P w K mg base cv k x ps ms mr G) (e:∀ ds,Out.le (G' ds) (G ds)):DefOk P w K mg base cv k x ps ms mr G':=by
 obtain ⟨f,fd,F,r⟩:=h
 refine ⟨f,fd,F.imp fun vs H Q E ⟨F1,ds,sb,ar,nd,po⟩=>⟨F1,ds,sb,ar,nd,?_⟩,r⟩
 rcases e ds with z | z
 ·rw [z] at po; exact po.elim
 ·rw [<-z]; exact po
section
variable {X:Cx} {C:Ct} {own:List Nat} {as:List AK} {G:List D->Out (D×List D)} {fr:Sl->Out (List D×Sl)} {mr:Mo} {e:Expr} {es:List Expr} {x:Str} {p pos:Pos} {ms:List PM} {ps:List Str} {k j:Nat} {cv:Str->Value}
theorem ql (F:DefOk X.prog X.w X.K X.mg X.base cv j x ps ms mr G) (hr:Room k X.A) (hj:j<=k) (hx:zU (CXk X.prog X.w) X C.E) (hg:Gl X x) (ha:PA X (e::es) (tAr C own as fr)) (hcv:C.cv=cv:=by rfl) (hK:C.K=X.K:=by rfl) (hms:ms=as.map QU:=by rfl) (hs:∀ i∈jj as,i∈own:=by decide) (nd:(jj as).Nodup:=by decide) (hf:frA as<=1:=by decide) (hio:∀ i∈C.ox,i∈own:=by exact xz rfl)
  (hdb:(x == ("__debug__":Str))=false:=by decide) (he:starEach (e::es) X.env=(false,eval e X.env)::starEach es X.env:=by exact kw rfl) (hpl:(backTo pos (starEach es X.env)).any (·.1)=false:=by exact gq rfl):PE X (.Call (.Name x p) (e::es) [] pos) (tE C own mr (qt as G fr)):=by
 subst hcv
 obtain ⟨f,fd,F,hm,hk,hb⟩:=F
 rw [<-hK] at F
 exact qaW (by rw [<-hK]; exact F) (hr.mono hj) hg hm hk hb hx ha hms hs nd hf hio hdb he hpl
noncomputable def WG:D->Out D
 | .int i=>.ok (.int (-i))
 | _=>.bad
theorem xG:UnD X C .sh (unaryOp .USub) WG:=by
 intro pins s σ H x v Q I rx h
 obtain ⟨F,dx,sb,tx,po⟩:=h
 cases dx <;> try exact po.elim
 obtain rfl:=tx.int
 exact qck pins s σ H _ v Q I rx ⟨_,rfl,po _ F H sb .refl (.int _)⟩
end
noncomputable def yc:Option (Option D)->Bool
 | some (some (.lst _))=>true
 | _=>false
noncomputable def zX (i:Nat) (g:List D->D->Out (List D)) (fe:Sl->Out (D×Sl)):Sl->Out (D×Sl):=fun ρ=>if yc ρ[i]?=true then (fe ρ).bind fun p=>match p.2[i]? with
 | some (some (.lst xs))=>match g xs p.1 with
  | .ok ys=>.ok (.non,p.2.set i (some (.lst ys)))
  | _=>.bad
 | _=>.bad
 else .bad
noncomputable def zH (xs:List D) (d:D):Out (List D):=if xs.length < sizeLine then .ok (xs++[d]) else .bad
noncomputable def qdO (xs:List D):D->Out (List D)
 | .lst ys=>if xs.length+ys.length<=sizeLine then .ok (xs++ys) else .bad
 | .tup ys=>if xs.length+ys.length<=sizeLine then .ok (xs++ys) else .bad
 | _=>.bad
section
variable {X:Cx} {C:Ct} {own:List Nat} {m:Mo} {e:Expr} {fe:Sl->Out (D×Sl)}
theorem Rep.write {K:Frag} {F H:Hp} {σ:St} {ρ:Sl} {i:Nat} {a:Addr} {d:D} {u:HO} (rp:Rep K own F H σ ρ) (hi:i∈own) (ha:σ[i]?=some (some (V.ref a))) (ow:OwnIs K F (upd H a u) a d) :
  Rep K own F (upd H a u) σ (ρ.set i (some d))/\Chg (OA own σ) F H F (upd H a u):=by
 obtain ⟨d0,hd0⟩:=rp.opn i hi
 obtain ⟨a',e1,hF,o0⟩:=rp.ow i d0 hi hd0
 rw [ha] at e1; cases e1
 have hl:i < ρ.length:=(List.getElem?_eq_some_iff.mp hd0).1
 refine ⟨⟨fun b o e=>by rw [qA (qE e hF)]; exact rp.sub b o e,by simp [rp.len],fun j d' hj e=>?_,fun j d' hj e=>?_,fun j hj=>?_,rp.dis⟩,⟨fun b o e n=>?_,fun b e=>?_,Same.refl _,fun b e=>.inl e⟩⟩
 ·rw [List.getElem?_set_ne (fun z=>hj (by rw [<-z]; exact hi))] at e
  exact rp.val j d' hj e
 ·by_cases q:j=i
  ·subst q
   rw [List.getElem?_set_self hl] at e
   cases e
   exact ⟨a,ha,hF,ow⟩
  ·rw [List.getElem?_set_ne (Ne.symm q)] at e
   obtain ⟨b,h1,h2,h3⟩:=rp.ow j d' hj e
   have nb:b≠a:=fun z=>by subst z; exact q (rp.dis j i b hj hi h1 ha)
   exact ⟨b,h1,h2,h3.grow (Same.refl _) fun o z=>by rw [qA nb]; exact z⟩
 ·by_cases q:j=i
  ·subst q; exact ⟨d,List.getElem?_set_self hl⟩
  ·rw [List.getElem?_set_ne (Ne.symm q)]; exact rp.opn j hj
 ·have nb:b≠a:=fun z=>n (by rw [z]; exact ⟨i,hi,ha⟩)
  rw [qA nb]; exact e
 ·by_cases q:b=a
  ·rw [q,qo]; simp
  ·rw [qA q]; exact e
theorem Vy {o:Option (Option D)} (h:yc o=true):∃ xs,o=some (some (.lst xs)):=by
 unfold yc at h
 split at h
 ·exact ⟨_,rfl⟩
 ·cases h
theorem Zr {i:Nat} {g:List D->D->Out (List D)} {R:V->V->Hp->VK->Prop} {σ:St} {H:Hp} {Q:VK} (ho:i∈own) (hm:m≠.any)
  (hR:∀ (a:Addr) (xs:List V) (ds ys:List D) (v:V) (d:D) (F H:Hp),Same F H->H a=some (.lst xs)->F a=none->IsL C.K F xs ds->Is C.K F v d->g ds d=.ok ys->(∀ zs,IsL C.K F zs ys->Q .non (upd H a (.lst zs)))->R (.ref a) v H Q)
  (h:tE C own .sh (zX i g fe) σ H Q):∃ a xs,σ[i]?=some (some (V.ref a))/\H a=some (.lst xs)/\tE C own .sh fe σ H fun v H1=>R (.ref a) v H1 Q:=by
 obtain ⟨F,ρ,rp,h⟩:=h
 unfold zX at h
 by_cases q:yc ρ[i]?=true
 ·rw [if_pos q] at h
  obtain ⟨ds,hd⟩:=Vy q
  obtain ⟨a,h1,h2,xs,h3,h4⟩:=rp.ow i _ ho hd
  refine ⟨a,xs,h1,h3,F,ρ,rp,Po.bind h fun v F1 H1 d ρ1 rp1 c1 mo1 po=>?_⟩
  cases q1:ρ1[i]? with
  | none=>simp only [q1] at po; exact po.elim
  | some o=>
   cases o with
   | none=>simp only [q1] at po; exact po.elim
   | some dd=>
    simp only [q1] at po
    cases dd with
    | lst es=>
     simp only at po
     cases q2:g es d with
     | ok ys=>
      simp only [q2] at po
      obtain ⟨a',e1,e2,vs,e3,e4⟩:=rp1.ow i _ ho q1
      rw [h1] at e1; cases e1
      refine hR a vs es ys v d F1 H1 rp1.sub e3 e2 e4 mo1 q2 fun zs iz=>?_
      obtain ⟨r2,c2⟩:=rp1.write (u:=.lst zs) (d:=.lst ys) ho h1 ⟨zs,qo,iz⟩
      exact po .non F1 _ r2 c2 .non
     | exc c o=>simp only [q2] at po; exact po.elim
     | bad=>simp only [q2] at po; exact po.elim
    | _=>exact po.elim
 ·rw [if_neg q] at h; exact h.elim
theorem vo {i:Nat} {x:Str} {px apos cpos:Pos} (hK:C.K=X.K) (hN:X.N[i]?=some x) (hv:Vis X.env.scope x) (ho:i∈own) (he:PE X e (tE C own m fe)) (hm:m≠.any:=by decide)
  (hd:(x == ("__debug__":Str))=false:=by decide) (hcd:(x == ("__classdict__":Str))=false:=by decide)
  (hbase:attributeBase (.Name x px) "append" X.env (eval (.Name x px) X.env)=eval (.Name x px) X.env:=by rfl)
  (hfew:((backTo cpos (starEach [e] X.env)).all (fun x=>!x.1)&&(backToKw cpos (keywordEach [] X.env)).all (fun x=>x.1.isSome)
   && decide ([e].length+([]:List Keyword).length+(if ([]:List Keyword).isEmpty then 0 else 1) < 30))=true:=by exact ur rfl)
  (hline:(apos.endLine == cpos.line)=true:=by rfl) (hs:starEach [e] X.env=[(false,eval e X.env)]:=by exact qU rfl) :
  PE X (.Call (.Attribute (.Name x px) "append" apos) [e] [] cpos) (tE C own .sh (zX i zH fe)):=by
 refine jw (XY PySem.F.plainAttrs_list PySem.F.slot_list_append PySem.F.type_list_append QL (wa hN hv hd hcd) (qY (uc he hm) jM hs) hbase hfew hline hs rfl) fun σ H Q h=>?_
 have hR:∀ (a:Addr) (xs:List V) (ds ys:List D) (v:V) (d:D) (F H:Hp),Same F H->H a=some (.lst xs)->F a=none->IsL C.K F xs ds->Is C.K F v d->zH ds d=.ok ys->(∀ zs,IsL C.K F zs ys->Q .non (upd H a (.lst zs)))->JW (.ref a) [v] H Q:=fun a xs ds ys v d F H sb ea ef ix iv eg k=>by
  unfold zH at eg
  split at eg
  ·cases eg
   exact ⟨a,xs,v,rfl,rfl,ea,by rw [ix.length]; assumption,k _ (ix.append (.cons iv .nil))⟩
  ·cases eg
 obtain ⟨a,xs,h1,h2,k⟩:=Zr (R:=fun x v H Q=>JW x [v] H Q) ho hm hR h
 exact ⟨.ref a,h1,.inl ⟨rfl,xs,.inl (.inl h2)⟩,k⟩
theorem Yc {i:Nat} {x:Str} {px apos cpos:Pos} (hN:X.N[i]?=some x) (hv:Vis X.env.scope x) (ho:i∈own) (he:PE X e (tE C own .fr fe))
  (hd:(x == ("__debug__":Str))=false:=by decide) (hcd:(x == ("__classdict__":Str))=false:=by decide)
  (hbase:attributeBase (.Name x px) "extend" X.env (eval (.Name x px) X.env)=eval (.Name x px) X.env:=by rfl)
  (hfew:((backTo cpos (starEach [e] X.env)).all (fun x=>!x.1)&&(backToKw cpos (keywordEach [] X.env)).all (fun x=>x.1.isSome)
   && decide ([e].length+([]:List Keyword).length+(if ([]:List Keyword).isEmpty then 0 else 1) < 30))=true:=by exact ur rfl)
  (hline:(apos.endLine == cpos.line)=true:=by rfl) (hs:starEach [e] X.env=[(false,eval e X.env)]:=by exact qU rfl) :
  PE X (.Call (.Attribute (.Name x px) "extend" apos) [e] [] cpos) (tE C own .sh (zX i qdO fe)):=by
 refine jw (XY PySem.F.plainAttrs_list PySem.F.slot_list_extend PySem.F.type_list_extend Uw (wa hN hv hd hcd) (qY he jM hs) hbase hfew hline hs rfl) fun σ H Q ⟨F,ρ,rp,h⟩=>?_
 unfold zX at h
 by_cases q:yc ρ[i]?=true
 ·rw [if_pos q] at h
  obtain ⟨ds,hd⟩:=Vy q
  obtain ⟨a,h1,h2,xs,h3,h4⟩:=rp.ow i _ ho hd
  refine ⟨.ref a,h1,.inl ⟨rfl,xs,.inl (.inl h3)⟩,F,ρ,rp,Po.bind h fun v F1 H1 d ρ1 rp1 c1 mo1 po=>?_⟩
  obtain ⟨b,rfl,hb0,hbF,ob⟩:=mo1
  cases q1:ρ1[i]? with
  | none=>simp only [q1] at po; exact po.elim
  | some o=>
   cases o with
   | none=>simp only [q1] at po; exact po.elim
   | some dd=>
    simp only [q1] at po
    cases dd with
    | lst es=>
     simp only at po
     obtain ⟨a',e1,e2,vs,e3,e4⟩:=rp1.ow i _ ho q1
     rw [h1] at e1; cases e1
     cases d with
     | lst ys=>
      obtain ⟨zs,hz,iz⟩:=ob
      have po:Po C own .sh σ F1 H1 (match (if es.length+ys.length<=sizeLine then .ok (es++ys) else .bad:Out (List D)) with | .ok ys=>.ok (.non,ρ1.set i (some (.lst ys))) | _=>.bad) Q:=po
      by_cases qz:es.length+ys.length<=sizeLine
      ·rw [if_pos qz] at po
       refine ⟨a,b,vs,zs,rfl,rfl,e3,hz,by rw [e4.length,iz.length]; exact qz,?_⟩
       obtain ⟨r2,c2⟩:=rp1.write (u:=.lst (vs++zs)) (d:=.lst (es++ys)) ho h1 ⟨_,qo,e4.append iz⟩
       exact po .non F1 _ r2 c2 .non
      ·rw [if_neg qz] at po; exact po.elim
     | dct ys=>
      exact po.elim
     | ins _ _=>exact po.elim
     | at_ _ _=>exact po.elim
     | _=>exact ob.elim
    | _=>exact po.elim
 ·rw [if_neg q] at h; exact h.elim
end
noncomputable def scB (names:List (Str×NameKind)) (scope:Scope):Bool:=decide (scope.kind=.function)&&scope.names.all fun y=>decide (y.2≠.cell)&&(!decide (y.2=.local)||decide (scope.names.lookup y.1=some .local)) &&
 (!decide (y.2=.free)||((decide (names.lookup y.1=some .cell)||decide (names.lookup y.1=some .free))&&decide (scope.names.lookup y.1=some .free)))
theorem vZ {X:Cx} {scope:Scope} {names:List (Str×NameKind)} (hX:X.env.scope.names=names) (b:scB names scope=true):ScOk X scope:=by
 subst hX
 unfold scB at b
 rw [Bool.and_eq_true,List.all_eq_true] at b
 obtain ⟨b0,b1⟩:=b
 refine ⟨of_decide_eq_true b0,fun y hy=>?_,fun y hy e=>?_,fun y hy e=>?_,fun y hy e=>?_⟩
 all_goals
  have q:=b1 y hy
  simp only [Bool.and_eq_true,Bool.or_eq_true,Bool.not_eq_true',decide_eq_true_eq,decide_eq_false_iff_not] at q
 ·exact q.1.1
 ·exact q.1.2.resolve_left fun z=>z e
 ·exact (q.2.resolve_left fun z=>z e).1
 ·exact (q.2.resolve_left fun z=>z e).2
noncomputable def qfb (names:List (Str×NameKind)) (N:List Str) (scope:Scope) (Nc:List Str) (nt:Nat) (cap:List Nat):Bool:=decide cap.Nodup&&decide (Nc.length=nt+cap.length)&&(List.range cap.length).all fun j=>match cap[j]? with
 | some k=>match Nc[nt+j]? with
  | some x=>decide (N[k]?=some x)&&(((decide (names.lookup x=some .local)||decide (names.lookup x=some .cell)||decide (names.lookup x=some .free))&&decide ((x,NameKind.free)∈scope.names))||scope.names.all fun y=>decide (y.1≠x))
  | none=>false
 | none=>false
theorem jP {X:Cx} {scope:Scope} {names:List (Str×NameKind)} {N Nc:List Str} {nt:Nat} {cap:List Nat} (hX:X.env.scope.names=names) (hN:X.N=N) (b:qfb names N scope Nc nt cap=true):CapOk X scope Nc nt cap:=by
 subst hX hN
 unfold qfb at b
 rw [Bool.and_eq_true,Bool.and_eq_true,List.all_eq_true] at b
 obtain ⟨⟨b0,b1⟩,b2⟩:=b
 refine ⟨of_decide_eq_true b0,of_decide_eq_true b1,fun j k hj=>?_⟩
 have q:=b2 j (List.mem_range.mpr (List.getElem?_eq_some_iff.mp hj).1)
 rw [hj] at q
 cases e:Nc[nt+j]? with
 | none=>simp only [e] at q; cases q
 | some x=>
  simp only [e,Bool.and_eq_true,Bool.or_eq_true,decide_eq_true_eq] at q
  refine ⟨x,rfl,q.1,?_⟩
  rcases q.2 with ⟨z,q2⟩ | z
  ·refine .inl ⟨?_,q2⟩
   rcases z with (z | z) | z
   ·exact .inl z
   ·exact .inr (.inl z)
   ·exact .inr (.inr z)
  ·refine .inr fun k' hk'=>?_
   rw [List.all_eq_true] at z
   exact of_decide_eq_true (z (x,k') hk') rfl
theorem yd {P:Program} {w:World} {X:Cx}:zU (CXk P w) X (fun _ _ _=>False):=fun _ _ _ _ _ _ _ h=>by
 obtain ⟨_,_,_,_,_,_,_,_,_,_,_,_,_,_,hE⟩:=h
 exact hE.elim
noncomputable def qeE (f:Sl->Out (D×Sl)):Sl->Out (D×Sl):=fun ρ=>(qN f ρ).bind fun p=>.ok (.bl (!p.1),p.2)
section
variable {X:Cx} {C:Ct} {own:List Nat} {e:Expr} {x:Str} {pos:Pos} {i:Int}
theorem uB (h:∃ t,X.mg x=some (.int i t)) (hg:Gl X x) (hd:(x == ("__debug__":Str))=false:=by decide):PE X (.Name x pos) (tE C own .sh (dC (.int i))):=by
 obtain ⟨t,h⟩:=h
 exact qaJ (v:=.int i) hg h ⟨t,rfl⟩ (fun _=>.int i) hd
end
section
variable {X:Cx} {C:Ct} {own:List Nat} {a b e:Expr} {f fa fb:Sl->Out (D×Sl)} {m ma mb:Mo} {pos:Pos}
noncomputable def vW:D->Out D
 | .lst xs=>.ok (.tup xs)
 | .tup xs=>.ok (.tup xs)
 | _=>.bad
noncomputable def WH:D->Out D
 | .lst xs=>.ok (.lst xs)
 | .tup xs=>.ok (.lst xs)
 | _=>.bad
theorem uC (hK:C.K=X.K):gy X C .sh (.type "tuple") vW:=by
 intro pins s σ H xs us Q I r h
 obtain ⟨x,F,dx,rfl,sb,tx,po⟩:=h
 cases dx with
 | lst ds=>
  obtain ⟨p,vs,rfl,hq,t⟩:=tx.lst sb
  refine uo pins s σ H _ us Q I r ⟨p,vs,rfl,.inl ⟨by rw [<-hK]; exact hq,fun l hl=>?_⟩⟩
  obtain ⟨s2,c2⟩:=xE (u:=.tup vs) sb hl
  exact po _ _ _ s2 c2 (.tup (.inl (.inl qo)) (t.mono c2.grow))
 | tup ds=>
  rcases tx with tx | ⟨_,_,tx⟩
  ·have tx0:=tx
   cases tx with
   | tup hq t=>exact uo pins s σ H _ us Q I r ⟨_,_,rfl,.inr ⟨by rw [<-hK]; exact qF sb hq,po _ F H sb .refl tx0⟩⟩
  ·exact tx.elim
 | _=>exact po.elim
theorem Yd (hK:C.K=X.K):gy X C .fr (.type "list") WH:=by
 intro pins s σ H xs us Q I r h
 obtain ⟨x,F,dx,rfl,sb,tx,po⟩:=h
 cases dx with
 | lst ds=>
  obtain ⟨p,vs,rfl,hq,t⟩:=tx.lst sb
  refine yC pins s σ H _ us Q I r ⟨p,vs,rfl,.inl (by rw [<-hK]; exact hq),fun l hl=>?_⟩
  obtain ⟨s2,c2,hF⟩:=kA (u:=.lst vs) sb hl
  exact po _ _ _ s2 c2 ⟨l,rfl,hl,hF,vs,qo,t⟩
 | tup ds=>
  obtain ⟨p,vs,rfl,hq,t⟩:=tx.tup sb
  refine yC pins s σ H _ us Q I r ⟨p,vs,rfl,.inr (by rw [<-hK]; exact hq),fun l hl=>?_⟩
  obtain ⟨s2,c2,hF⟩:=kA (u:=.lst vs) sb hl
  exact po _ _ _ s2 c2 ⟨l,rfl,hl,hF,vs,qo,t⟩
 | _=>exact po.elim
def Ye (X:Cx) (C:Ct) (m:Mo) (f:Value) (g:D->D->Out D):Prop:=wS X f (fun xs H Q=>∃ x y F dx dy,xs=[x,y]/\Same F H/\TopIs C.K F H x dx/\TopIs C.K F H y dy/\PoV C m F H (g dx dy) Q)
theorem Zs {σ:St} {H:Hp} {Q:VK} {g:D->D->Out D} (hma:ma≠.any) (h:tE C own m (d2 g fa fb) σ H Q):XW (tE C own ma fa) (XW (tE C own mb fb) qen) σ H fun xs H1=>∃ x y F dx dy,xs=[x,y]/\Same F H1/\TopIs C.K F H1 x dx/\TopIs C.K F H1 y dy/\PoV C m F H1 (g dx dy) Q:=by
 obtain ⟨F,ρ,rp,h⟩:=QP (mb:=mb) hma h
 refine ⟨F,ρ,rp,?_⟩
 cases q:fa ρ with
 | ok p=>
  rw [q] at h
  obtain ⟨d,ρ1⟩:=p
  intro v F1 H1 rp1 c1 mo1
  obtain ⟨F2,ρ2,rp2,h2⟩:=h v F1 H1 rp1 c1 mo1
  refine ⟨F2,ρ2,rp2,?_⟩
  cases q2:fb ρ2 with
  | ok p=>
   rw [q2] at h2
   obtain ⟨d',ρ3⟩:=p
   intro w F3 H3 rp3 c3 mo3
   obtain ⟨F4,dx,dy,z⟩:=h2 w F3 H3 rp3 c3 mo3
   exact ⟨v,w,F4,dx,dy,rfl,z⟩
  | exc c=>rw [q2] at h2; exact h2
  | bad=>rw [q2] at h2; exact h2.elim
 | exc c=>rw [q] at h; exact h
 | bad=>rw [q] at h; exact h.elim
theorem Jb {x:Str} {id:String} {p:Pos} {g:D->D->Out D} (hc:Ye X C m (.builtin id) g) (hg:Gl X x) (hm:X.mg x=none) (hv:bootBuiltins x=some (.builtin id)) (ha:PE X a (tE C own ma fa)) (hb:PE X b (tE C own mb fb)) (hma:ma≠.any:=by decide) (hn:x ≠ "__name__":=by decide) (hdb:(x == ("__debug__":Str))=false:=by decide)
  (h1:starEach [a,b] X.env=(false,eval a X.env)::starEach [b] X.env:=by rfl) (h2:starEach [b] X.env=[(false,eval b X.env)]:=by exact qU rfl):PE X (.Call (.Name x p) [a,b] [] pos) (tE C own m (d2 g fa fb)):=
 jw (um hc hg hm hv (qY ha (qY hb jM h2) h1) hn hdb (by rw [h1]) (by rw [h2]; rfl)) fun _ _ _ h=>Zs hma h
noncomputable def qdP:D->D->Out D:=wT fun i j=>.ok (.int (if j > i then j else i))
noncomputable def qdQ:D->D->Out D:=wT fun i j=>.ok (.int (if j < i then j else i))
theorem qcR (hc:X.calm=true):Ye X C .sh (.builtin "max") qdP:=by
 intro pins s σ H xs us Q I r h
 obtain ⟨x,y,F,dx,dy,rfl,sb,tx,ty,po⟩:=h
 cases dx <;> try exact po.elim
 cases dy <;> try exact po.elim
 obtain rfl:=tx.int
 obtain rfl:=ty.int
 exact Ur hc pins s σ H _ us Q I r ⟨_,_,rfl,po _ F H sb .refl (.int _)⟩
theorem qcS (hc:X.calm=true):Ye X C .sh (.builtin "min") qdQ:=by
 intro pins s σ H xs us Q I r h
 obtain ⟨x,y,F,dx,dy,rfl,sb,tx,ty,po⟩:=h
 cases dx <;> try exact po.elim
 cases dy <;> try exact po.elim
 obtain rfl:=tx.int
 obtain rfl:=ty.int
 exact Us hc pins s σ H _ us Q I r ⟨_,_,rfl,po _ F H sb .refl (.int _)⟩
noncomputable def jS (a T:String):Option Bool:=if (Value.type a == Value.type T)=true then some true else if PySem.W.kitMeta T=true then (fastBuiltinMro a).map (·.contains (.type T)) else none
theorem Zu (K:Frag) (a T:String):PySem.W.kitOne K (.type a) (.type T)=jS a T:=rfl
noncomputable def tyN:D->Option String
 | .non=>some "NoneType"
 | .bl _=>some "bool"
 | .int _=>some "int"
 | .str _=>some "str"
 | .tup _=>some "tuple"
 | .lst _=>some "list"
 | .dct _=>some "dict"
 | _=>none
noncomputable def zF (T:String) (d:D):Out D:=match tyN d with
 | some a=>match jS a T with
  | some b=>.ok (.bl b)
  | none=>.bad
 | none=>.bad
theorem Zv {T:String} (hK:C.K=X.K):wS X (.builtin "isinstance") (fun xs H Q=>∃ x F d,xs=[x,.ty T]/\Same F H/\TopIs C.K F H x d/\PoV C .sh F H (zF T d) Q):=by
 intro pins s σ H xs us Q I r h
 obtain ⟨x,F,d,rfl,sb,tx,po⟩:=h
 obtain ⟨u,c,rfl,ru,rc⟩:=qay r
 cases rc
 cases q:tyN d with
 | none=>unfold zF at po; rw [q] at po; exact po.elim
 | some a=>
  cases q2:jS a T with
  | none=>unfold zF at po; rw [q] at po; simp only [q2] at po; exact po.elim
  | some b=>
   have po:PoV C .sh F H (.ok (.bl b)) Q:=by unfold zF at po; rw [q] at po; simp only [q2] at po; exact po
   have fin:∀ tk,EP X pins σ Q (.bool b) { s with toks:=tk }:=fun tk=>⟨.bl b,H,I.tok tk,rfl,po _ F H sb .refl (.bl b)⟩
   have e:PySem.W.kitOne X.K (.type a) (.type T)=some b:=(Zu X.K a T).trans q2
   cases d with
   | non=>obtain rfl:=tx.non; cases ru; cases q; exact PySem.W.kia_one PySem.W.kitx_none I.kIn True.intro e (fun z=>nomatch z) fin
   | bl y=>obtain rfl:=tx.bl; cases ru; cases q; exact PySem.W.kia_one PySem.W.kitx_bool I.kIn True.intro e (fun z=>nomatch z) fin
   | int y=>obtain rfl:=tx.int; obtain ⟨t,rfl⟩:=ru; cases q; exact PySem.W.kia_one PySem.W.kitx_int I.kIn True.intro e (fun z=>nomatch z) fin
   | str y=>obtain ⟨rfl,_⟩:=tx.str; obtain ⟨t,rfl⟩:=ru; cases q; exact PySem.W.kia_one PySem.W.kitx_str I.kIn True.intro e (fun z=>nomatch z) fin
   | tup y=>
    obtain ⟨p,vs,rfl,hq,t⟩:=tx.tup sb
    cases ru; cases q
    obtain ⟨its,_,⟨o,h1,h2,_⟩,_⟩:=I.tuple (show SqT X.K H p vs by rw [<-hK]; exact hq)
    exact PySem.W.kia_one PySem.W.kitx_tuple I.kIn ⟨o,h1,h2⟩ e (fun z=>nomatch z) fin
   | lst y=>
    obtain ⟨p,vs,rfl,hq,t⟩:=tx.lst sb
    cases ru; cases q
    obtain ⟨its,_,⟨o,n,h1,h2,_⟩,_⟩:=I.list (show SqL X.K H p vs by rw [<-hK]; exact hq)
    exact PySem.W.kia_one PySem.W.kitx_list I.kIn ⟨o,h1,h2⟩ e (fun z=>nomatch z) fin
   | dct y=>
    obtain ⟨p,vs,rfl,hq,t⟩:=tx.dct sb
    cases ru; cases q
    obtain ⟨_,_,ws,_,o,es,ep,h1,h2,_⟩:=(show ObjOk X.prog X.w H s.heap p (.dK vs) from I.hok p _ hq)
    exact PySem.W.kia_one PySem.W.kitx_dict I.kIn ⟨o,h1,h2.1⟩ e (fun z=>nomatch z) fin
   | _=>cases q
theorem xH {T:String} {tn:Str} {p tp:Pos} (hK:C.K=X.K) (hg:Gl X "isinstance") (hm:X.mg "isinstance"=none) (hv:bootBuiltins "isinstance"=some (.builtin "isinstance")) (ht:Gl X tn) (htm:X.mg tn=none) (htv:bootBuiltins tn=some (.type T)) (ha:PE X a (tE C own ma fa)) (hn:tn ≠ "__name__":=by decide) (hdb:(tn == ("__debug__":Str))=false:=by decide)
  (h1:starEach [a,.Name tn tp] X.env=(false,eval a X.env)::starEach [.Name tn tp] X.env:=by rfl) (h2:starEach [.Name tn tp] X.env=[(false,eval (.Name tn tp) X.env)]:=by rfl):PE X (.Call (.Name "isinstance" p) [a,.Name tn tp] [] pos) (tE C own .sh (d1 (zF T) fa)):=by
 refine jw (um (Zv (T:=T) hK) hg hm hv (qY ha (qY (qan (v:=.ty T) ht htm htv rfl hn hdb) jM h2) h1) (by decide) (by decide) (by rw [h1]) (by rw [h2]; rfl)) fun σ H Q h=>?_
 obtain ⟨F,ρ,rp,h⟩:=Zf (ma:=ma) h
 refine ⟨F,ρ,rp,?_⟩
 cases q:fa ρ with
 | ok p=>
  rw [q] at h
  obtain ⟨d,ρ1⟩:=p
  intro v F1 H1 rp1 c1 mo1
  obtain ⟨F2,dx,z⟩:=h v F1 H1 rp1 c1 mo1
  exact ⟨v,F2,dx,rfl,z⟩
 | exc c=>rw [q] at h; exact h
 | bad=>rw [q] at h; exact h.elim
noncomputable def yG:List D->Option (List Bool)
 | []=>some []
 | .bl b::ds=>(yG ds).map (b::·)
 | _::_=>none
noncomputable def Zw:D->Out D
 | .lst ds=>match yG ds with
  | some bs=>.ok (.bl (bs.all id))
  | none=>.bad
 | _=>.bad
theorem Vz {K:Frag} {F:Hp}:∀ {vs:List V} {us:List Value} {ds:List D} {bs:List Bool},IsL K F vs ds->Vals vs us->yG ds=some bs->us=bs.map Value.bool
 | _,_,_,_,.nil,.nil,e=>by cases e; rfl
 | _,_,_,_,.cons (d:=d) h t,.cons r rs,e=>by
  cases d with
  | bl b=>
   unfold yG at e
   obtain ⟨bs',e1,e2⟩:=Option.map_eq_some_iff.mp e
   subst e2
   cases h
   cases r
   rw [Vz t rs e1]; rfl
  | _=>cases e
theorem VA (hK:C.K=X.K) (hc:X.calm=true):gy X C .sh (.builtin "all") Zw:=by
 intro pins s σ H xs us Q I r h
 obtain ⟨x,F,dx,rfl,sb,tx,po⟩:=h
 cases dx <;> try exact po.elim
 rename_i ds
 obtain ⟨p,vs,rfl,hq,t⟩:=tx.lst sb
 obtain ⟨u,rfl,ru⟩:=wZ r
 cases ru
 unfold Zw at po
 cases q:yG ds with
 | none=>simp only [q] at po; exact po.elim
 | some bs=>
  simp only [q] at po
  obtain ⟨its,rv,pl,hz⟩:=I.list (show SqL X.K H p vs by rw [<-hK]; exact hq)
  have eb:=Vz t rv q
  subst eb
  have hp:p < s.heap.objs.size:=let ⟨o,h1,_⟩:=pl.isList; Heap.lt_size h1
  refine call_all_walk (wpAny_pyIter_list pl.isList ?_)
  have W:Walks X.prog X.w X.A.in1 s.heap.objs.size [s.heap.objs.size,p] [s.heap.objs.size] (bs.map Value.bool).toArray.size (fun i v=>(bs.map Value.bool).toArray[i]?=some v) (fun i h=>h.IsListIter s.heap.objs.size p i/\h.IsList p (bs.map Value.bool).toArray):=Walks.list (A:=X.A.in1) (show X.A.in1.handled=none from I.ok.hd hc) s.heap.objs.size p (Nat.ne_of_lt hp) _
  have st:(s.heap.push { cls:=.type "list_iterator",data:=.fields #[.ref p,.int 0 0] }).IsListIter s.heap.objs.size p 0/\(s.heap.push { cls:=.type "list_iterator",data:=.fields #[.ref p,.int 0 0] }).IsList p (bs.map Value.bool).toArray:=⟨⟨_,Heap.get?_push_size _ rfl,rfl,rfl⟩,let ⟨o,h1,h2⟩:=pl.isList; ⟨o,Heap.get?_push_of_some _ h1,h2⟩⟩
  refine ⟨_,_,_,_,_,_,fun i=>(bs[i]?).getD false,rfl,W,st,fun i v s' Q' E' hP hQ'=>?_,fun h' tk kp=>?_⟩
  ·have hP:(bs.map Value.bool).toArray[i]?=some v:=hP
   rw [List.getElem?_toArray,List.getElem?_map] at hP
   cases qi:bs[i]? with
   | none=>rw [qi] at hP; cases hP
   | some b=>
    have hQ2:Q' ((bs[i]?).getD false) s':=hQ'
    rw [qi] at hP hQ2
    cases hP
    exact wpAny_truthy_bool hQ2
  ·have e:(List.range (bs.map Value.bool).toArray.size).all (fun i=>(bs[i]?).getD false)=bs.all id:=by
    rw [List.size_toArray,List.length_map,Bool.eq_iff_iff,List.all_eq_true,List.all_eq_true]
    constructor
    ·intro h b hb
     obtain ⟨i,hi,e⟩:=List.mem_iff_getElem.mp hb
     have:=h i (List.mem_range.mpr hi)
     rw [List.getElem?_eq_getElem hi,e] at this
     exact this
    ·intro h i hi
     have hi:=List.mem_range.mp hi
     rw [List.getElem?_eq_getElem hi]
     exact h _ (List.getElem_mem hi)
   rw [e]
   refine ⟨.bl (bs.all id),H,?_,rfl,po _ F H sb .refl (.bl _)⟩
   have k2:∀ b o,s.heap.get? b=some o->h'.get? b=some o:=fun b o eb=>kp b o (by simp; exact Nat.ne_of_lt (Heap.lt_size eb)) (Heap.get?_push_of_some _ eb)
   exact I.kept (t':=tk) k2
end
noncomputable def vp {α:Type} (idx:List Nat) (xs:List α):List α:=idx.filterMap fun k=>xs[k]?
theorem IsL.pick {K:Frag} {F:Hp} {vs:List V} {ds:List D} (h:IsL K F vs ds):∀ (idx:List Nat),IsL K F (vp idx vs) (vp idx ds)
 | []=>.nil
 | k::idx=>by
  unfold vp
  rw [List.filterMap_cons,List.filterMap_cons]
  cases e:vs[k]? with
  | none=>
   have e2:ds[k]?=none:=List.getElem?_eq_none_iff.mpr (by rw [<-h.length]; exact List.getElem?_eq_none_iff.mp e)
   rw [e2]
   exact IsL.pick h idx
  | some v=>
   obtain ⟨d,e2,i⟩:=h.get e
   rw [e2]
   exact .cons i (IsL.pick h idx)
theorem xI {vs:List V} {us:List Value} (h:Vals vs us):∀ (idx:List Nat),Vals (vp idx vs) (vp idx us)
 | []=>.nil
 | k::idx=>by
  unfold vp
  rw [List.filterMap_cons,List.filterMap_cons]
  cases e:vs[k]? with
  | none=>rw [h.none_of e]; exact xI h idx
  | some v=>
   obtain ⟨u,e2,r⟩:=h.get e
   rw [e2]
   exact .cons r (xI h idx)
theorem Zx {α:Type} (xs:List α):vp (List.range xs.length) xs=xs:=by
 unfold vp
 have:=PySem.W.krv_all xs.toArray
 simpa using this
noncomputable def Jc (n:Nat) (lo hi:Option Int) (st:Int):List Nat:=(List.range (Builtin.Slice.slicePlaces (Builtin.Slice.sliceAdjust lo hi st n).1 (Builtin.Slice.sliceAdjust lo hi st n).2 st)).map fun (k:Nat)=>((Builtin.Slice.sliceAdjust lo hi st n).1+(k:Int) * st).toNat
noncomputable def zY (x:Str) (lo hi:Option Int) (st:Int):Str:=if (st == 1&&(Builtin.Str.strSliceIndices lo hi st x.length).length == x.length)=true then x else ⟨((Builtin.Str.strSliceIndices lo hi st x.length).filterMap (x.cps[·]?)).toArray⟩
noncomputable def slD (lo hi st:Option Int):D->Out D
 | .tup xs=>if st.getD 1≠0/\(vp (Jc xs.length lo hi (st.getD 1)) xs).length<=sizeLine then .ok (.tup (vp (Jc xs.length lo hi (st.getD 1)) xs)) else .bad
 | .str x=>if st.getD 1≠0/\(zY x lo hi (st.getD 1)).length<=sizeLine then .ok (.str (zY x lo hi (st.getD 1))) else .bad
 | _=>.bad
def qfc (X:Cx) (r:V->Option Int->Option Int->Option Int->Hp->VK->Prop):Prop:=
 ∀ (pins:List (Addr×Obj)) (s:Shared) (σ:St) (H:Hp) (x:V) (v vl vu vk:Value) (lo hi st:Option Int) (sl:Addr) (Q:VK),Inv X pins σ H s->RelV x v->s.heap.IsSliceOf sl vl vu vk->IsPart vl lo->IsPart vu hi->IsPart vk st->r x lo hi st H Q ->
  ∃ T id,typeLookup (.type T) "__getitem__"=pure (some (.builtin id))/\s.TypeIs v T/\wpAny (model X.prog X.w) X.A (getItem v (.ref sl)) (EP X pins σ Q) X.xe s
section
variable {prog:Program} {w:World} {A:Around} {E:Value->Shared->Prop} {s:Shared}
theorem zI {sl:Addr} {vl vu vk:Value} {lo hi st:Option Int} {n:Nat} {Q:Int×Int×Nat->Shared->Prop} (hs:s.heap.IsSliceOf sl vl vu vk) (pl:IsPart vl lo) (pu:IsPart vu hi) (pk:IsPart vk st) (h0:st.getD 1≠0)
  (h:Q ((Builtin.Slice.sliceAdjust lo hi (st.getD 1) n).1,st.getD 1,Builtin.Slice.slicePlaces (Builtin.Slice.sliceAdjust lo hi (st.getD 1) n).1 (Builtin.Slice.sliceAdjust lo hi (st.getD 1) n).2 (st.getD 1)) s):wpAny (model prog w) A (Builtin.Slice.sliceApplied (.ref sl) (pure (n:Int))) Q E s:=by
 obtain ⟨os,hos,hcs,hds⟩:=id hs
 unfold Builtin.Slice.sliceApplied Builtin.Slice.sliceFields
 refine wpAny_bind (wpAny_bind (wpAny_field hos hds (x:=vl) rfl (wpAny_bind (wpAny_field hos hds (x:=vu) rfl (wpAny_bind (wpAny_field hos hds (x:=vk) rfl (wpAny_pure ?_)))))))
 refine wpAny_bind (HT.slicePart_ pk ?_)
 show wpAny _ _ (if (st.getD 1 == 0)=true then _ else _) _ _ s
 rw [if_neg (by simpa using h0)]
 refine wpAny_bind (HT.slicePart_ pl (wpAny_bind (HT.slicePart_ pu (wpAny_bind (wpAny_pure ?_)))))
 exact wpAny_pure h
theorem xJ {t sl:Addr} {items:Array Value} {vl vu vk:Value} {lo hi st:Option Int} {Q:Value->Shared->Prop} (ht:IsTup s.heap t items) (hs:s.heap.IsSliceOf sl vl vu vk) (pl:IsPart vl lo) (pu:IsPart vu hi) (pk:IsPart vk st) (h0:st.getD 1≠0)
  (hw:Jc items.size lo hi (st.getD 1)=List.range items.size->Q (.ref t) s)
  (h:Q (.ref s.heap.objs.size) { s with heap:=s.heap.push { cls:=.type "tuple",data:=.seq (vp (Jc items.size lo hi (st.getD 1)) items.toList).toArray } })
  (hsz:(vp (Jc items.size lo hi (st.getD 1)) items.toList).length<=sizeLine):wpAny (model prog w) A (getItem (.ref t) (.ref sl)) Q E s:=by
 obtain ⟨os,hos,hcs,hds⟩:=id hs
 have hTs:s.TypeIs (.ref sl) "slice":=⟨os,hos,hcs⟩
 unfold getItem
 try with_reducible refine wpAny_holding ?_
 first | refine wpAny_bind (wpAny_pure ?_) | skip
 refine wpAny_bind (wpAny_sequenceKey ht.typeIs (by decide) ?_)
 refine wpAny_bind (wpAny_callSpecial?_slot (name:=Str.ofString "__getitem__") ht.typeIs PyProof.Rows.slot_tuple_getitem
  (wpAny_call_entry PyProof.Rows.slot_tuple_getitem ht.typeIs entry_tuple_getitem ?_ (args_tuple_getitem _ _)))
 show wpAny _ _ (Builtin.Tuple.tupleItemsOf (.ref t) >>= _) _ _ s
 refine wpAny_bind (tupleItemsOf_ ht ?_)
 refine wpAny_bind (wpAny_typeOf hTs ?_)
 rw [if_pos (by decide)]
 refine wpAny_bind (zI hs pl pu pk h0 ?_)
 generalize hA:Builtin.Slice.sliceAdjust lo hi (st.getD 1) items.size=A0
 generalize hN:Builtin.Slice.slicePlaces A0.1 A0.2 (st.getD 1)=N0
 have ep:vp (Jc items.size lo hi (st.getD 1)) items.toList=(List.range N0).filterMap fun (k:Nat)=>items[(A0.1+(k:Int) * st.getD 1).toNat]?:=by
  unfold vp Jc
  rw [hA,hN,List.filterMap_map]
  congr 1
  funext k
  simp
 rw [ep] at h hsz
 by_cases hc:(A0.1 == 0&&st.getD 1 == 1&&N0 == items.size)=true
 ·have hc':=hc
  rw [Bool.and_eq_true,Bool.and_eq_true] at hc'
  have q1:A0.1=0:=eq_of_beq hc'.1.1
  have q2:st.getD 1=1:=eq_of_beq hc'.1.2
  have q3:N0=items.size:=eq_of_beq hc'.2
  have whole:Jc items.size lo hi (st.getD 1)=List.range items.size:=by
   unfold Jc
   rw [hA,hN,q1,q2,q3]
   have e:(fun (k:Nat)=>((0:Int)+(k:Int) * 1).toNat)=id:=by
    funext k
    show ((0:Int)+(k:Int) * 1).toNat=k
    omega
   rw [e,List.map_id]
  have hQ:=hw whole
  show wpAny _ _ (if (A0.1 == 0&&st.getD 1 == 1&&N0 == items.size)=true then _ else _) _ _ s
  rw [if_pos hc]
  unfold Builtin.Tuple.tupleIsExact
  refine wpAny_bind (wpAny_bind (wpAny_typeOf ht.typeIs (wpAny_pure ?_)))
  rw [if_pos (by decide)]
  exact wpAny_bind (wpAny_rule (wpAny_pure ⟨_,rfl,wpAny_pure hQ⟩))
 ·show wpAny _ _ (if (A0.1 == 0&&st.getD 1 == 1&&N0 == items.size)=true then _ else _) _ _ s
  rw [if_neg hc]
  have htake:sizeOk (.seq ((List.range N0).filterMap fun (k:Nat)=>items[(A0.1+(k:Int) * st.getD 1).toNat]?).toArray):=by
   show (((List.range N0).filterMap fun (k:Nat)=>items[(A0.1+(k:Int) * st.getD 1).toNat]?).toArray).size<=sizeLine
   rw [List.size_toArray]; exact hsz
  first
   | exact wpAny_bind (m:=Builtin.Tuple.tupleExact _) (wpAny_newObj_type (wpAny_pure ⟨_,rfl,wpAny_pure h⟩) htake)
   | exact wpAny_bind (m:=Builtin.Tuple.tupleExact _) (wpAny_newObj_type (wpAny_bind (wpAny_pure (wpAny_pure ⟨_,rfl,wpAny_pure h⟩))) htake)
   | exact wpAny_bind (wpAny_bind (m:=Builtin.Tuple.tupleExact _) (wpAny_newObj_type (wpAny_pure (wpAny_pure ⟨_,rfl,wpAny_pure h⟩)) htake))
   | exact wpAny_bind (wpAny_bind (m:=Builtin.Tuple.tupleExact _) (wpAny_newObj_type (wpAny_pure ⟨_,rfl,wpAny_pure h⟩) htake))
end
def PoO (C:Ct) (own:List Nat) (σ:St) (F H:Hp) (r:Out (Option Int×Sl)) (Q:Option Int->Hp->Prop):Prop:=match r with
 | .ok (b,ρ')=>∀ F' H',Rep C.K own F' H' σ ρ'->Chg (OA own σ) F H F' H'->Q b H'
 | .exc c ρ'=>∀ F' H',Same F' H'->XG C.K C.ox F' H' σ ρ'->Chg (OA own σ) F H F' H'->C.E (C.cv c) none H'
 | .bad=>False
def tO (C:Ct) (own:List Nat) (f:Sl->Out (Option Int×Sl)):TO:=fun σ H Q=>∃ F ρ,Rep C.K own F H σ ρ/\PoO C own σ F H (f ρ) Q
noncomputable def gE:Option (Sl->Out (D×Sl))->Sl->Out (Option Int×Sl)
 | none,ρ=>.ok (none,ρ)
 | some f,ρ=>(f ρ).bind fun p=>match p.1 with
  | .int i=>.ok (some i,p.2)
  | _=>.bad
theorem Po.bindO {C:Ct} {own:List Nat} {m:Mo} {σ:St} {F H:Hp} {o:Out (Option Int×Sl)} {k:Option Int×Sl->Out (D×Sl)} {Q:VK} {R:Option Int->Hp->Prop} (hp:Po C own m σ F H (o.bind k) Q)
  (h:∀ F1 H1 b ρ1,Rep C.K own F1 H1 σ ρ1->Chg (OA own σ) F H F1 H1->Po C own m σ F1 H1 (k (b,ρ1)) Q->R b H1):PoO C own σ F H o R:=by
 cases o with
 | ok p=>
  obtain ⟨d,ρ1⟩:=p
  exact fun F1 H1 rp c=>h F1 H1 d ρ1 rp c (Po.shift (show Po C own m σ F H (k (d,ρ1)) Q from hp) c)
 | exc x=>exact hp
 | bad=>exact hp.elim
noncomputable def VB (fa:Sl->Out (D×Sl)) (l u k:Option (Sl->Out (D×Sl))):Sl->Out (D×Sl):=fun ρ=>(fa ρ).bind fun p=>(gE l p.2).bind fun a=>(gE u a.2).bind fun b=>(gE k b.2).bind fun c=>(slD a.1 b.1 c.1 p.1).plain.bind fun d=>.ok (d,c.2)
section
variable {X:Cx} {C:Ct} {own:List Nat} {a e:Expr} {fa f:Sl->Out (D×Sl)} {m ma:Mo} {pos p2:Pos}
theorem VC:PO X none (tO C own (gE none)):=by
 intro pins s σ H Q I ⟨F,ρ,rp,h⟩
 exact qaC pins s σ H Q I (h F H rp .refl)
theorem Zy (h:PE X e (tE C own m f)):PO X (some e) (tO C own (gE (some f))):=by
 intro pins s σ H Q I ⟨F,ρ,rp,hp⟩
 refine qaD h pins s σ H Q I ⟨F,ρ,rp,?_⟩
 have hp:PoO C own σ F H ((f ρ).bind fun p=>match p.1 with | .int i=>.ok (some i,p.2) | _=>.bad) Q:=hp
 cases q:f ρ with
 | ok p=>
  rw [q] at hp
  obtain ⟨d,ρ1⟩:=p
  cases d with
  | int i=>exact fun v F1 H1 rp1 c1 mo1=>⟨i,mo1.top.int,hp F1 H1 rp1 c1⟩
  | _=>exact hp.elim
 | exc c=>rw [q] at hp; exact hp
 | bad=>rw [q] at hp; exact hp.elim
theorem Yg {r:V->Option Int->Option Int->Option Int->Hp->VK->Prop} {te:TE} {tl th tk:TO} {lo hi st:Option Expr} (hr:qfc X r) (he:PE X e te) (hl:PO X lo tl) (hu:PO X hi th) (hk:PO X st tk) :
  PE X (.Subscript e (.Slice lo hi st p2) pos) (fun σ H Q=>te σ H fun x H1=>tl σ H1 fun l H2=>th σ H2 fun u H3=>tk σ H3 fun k H4=>r x l u k H4 Q):=by
 refine ⟨?_⟩
 intro pins s σ H Q I h
 refine Subscript_ (thn (he pins s σ H _ I h) fun v s1 ⟨x,H1,I1,r1,q1⟩=>?_)
 refine wpAny_Slice (thn (hl pins s1 σ H1 _ I1 q1) fun vl s2 ⟨l,H2,I2,pl,q2⟩=>thn (hu pins s2 σ H2 _ I2 q2) fun vu s3 ⟨u,H3,I3,pu,q3⟩=>thn (hk pins s3 σ H3 _ I3 q3) fun vk s4 ⟨k,H4,I4,pk,q4⟩=>?_)
 have I5:Inv X pins σ H4 { s4 with heap:=s4.heap.push { cls:=.type "slice",data:=.fields #[vl,vu,vk] } }:=I4.kept (t':=s4.toks) fun b ob q=>Heap.get?_push_of_some _ q
 obtain ⟨T,id,hT,ht,hg⟩:=hr pins { s4 with heap:=s4.heap.push { cls:=.type "slice",data:=.fields #[vl,vu,vk] } } σ H4 x v vl vu vk l u k s4.heap.objs.size Q I5 r1 (Heap.IsSliceOf.new ..) pl pu pk q4
 show wpAny (model X.prog X.w) X.A (subscriptTail e (.Slice lo hi st p2) v (.ref s4.heap.objs.size)) (EP X pins σ Q) X.xe { s4 with heap:=s4.heap.push { cls:=.type "slice",data:=.fields #[vl,vu,vk] } }
 cases st with
 | none=>exact tail_any (ops:=[.ref s4.heap.objs.size,v]) ht hT hg (by with_unfolding_all rfl)
 | some st=>exact tail_any (ops:=[v,.ref s4.heap.objs.size]) ht hT hg (by with_unfolding_all rfl)
theorem gF {v:Value} {o:Option Int} (h:IsPart v o):∃ l:Option (Int×Tok),v=partValue l/\l.map (·.1)=o:=by
 cases h with
 | none=>exact ⟨none,rfl,rfl⟩
 | int i t=>exact ⟨some (i,t),rfl,rfl⟩
theorem qfQ (hK:C.K=X.K):qfc X (fun x lo hi st H Q=>∃ F d,Same F H/\Is C.K F x d/\PoV C .sh F H (slD lo hi st d) Q):=by
 intro pins s σ H x v vl vu vk lo hi st sl Q I rx hs pl pu pk h
 obtain ⟨F,d,sb,is,po⟩:=h
 cases d with
 | tup ds=>
  have is0:=is
  cases is with
  | @tup a xs _ hq t=>
   cases rx
   have hq':SqT X.K H a xs:=by rw [<-hK]; exact qF sb hq
   obtain ⟨its,r,ht,hz⟩:=I.tuple hq'
   have hlen:its.length=ds.length:=r.length.symm.trans t.length
   have po:PoV C .sh F H (if st.getD 1≠0/\(vp (Jc ds.length lo hi (st.getD 1)) ds).length<=sizeLine then .ok (.tup (vp (Jc ds.length lo hi (st.getD 1)) ds)) else .bad) Q:=po
   by_cases c:st.getD 1≠0/\(vp (Jc ds.length lo hi (st.getD 1)) ds).length<=sizeLine
   ·rw [if_pos c] at po
    have iv:=t.pick (Jc ds.length lo hi (st.getD 1))
    have rv:=xI r (Jc ds.length lo hi (st.getD 1))
    refine ⟨"tuple",_,PyProof.Rows.slot_tuple_getitem.lookup,ht.typeIs,xJ ht hs pl pu pk c.1 (fun e=>?_) ?_ ?_⟩
    ·rw [List.size_toArray,hlen] at e
     refine ⟨.ref a,H,I,rfl,po _ F H sb .refl ?_⟩
     rw [e,Zx]
     exact is0
    ·simp only [List.size_toArray,hlen]
     have hlv:(vp (Jc ds.length lo hi (st.getD 1)) xs).length<=sizeLine:=by rw [iv.length]; exact c.2
     refine ⟨.ref s.heap.objs.size,_,I.laid (t':=s.toks) (o:=.tup (vp (Jc ds.length lo hi (st.getD 1)) xs)) (fun b ob q=>Heap.get?_push_of_some _ q) (Nat.le_refl _) ⟨⟨hlv,⟨_,Heap.get?_push_size _ rfl,rfl⟩⟩,_,rv,IsTup.new _ _⟩,rfl,?_⟩
     obtain ⟨s2,c2⟩:=xE (u:=.tup (vp (Jc ds.length lo hi (st.getD 1)) xs)) sb (I.hok.fresh (Nat.le_refl _))
     exact po _ _ _ s2 c2 (.tup (.inl (.inl qo)) (iv.mono c2.grow))
    ·simp only [List.size_toArray,hlen]
     rw [<-rv.length,iv.length]
     exact c.2
   ·rw [if_neg c] at po; exact po.elim
 | str z=>
  cases is
  obtain ⟨t,rfl⟩:=rx
  have po:PoV C .sh F H (if st.getD 1≠0/\(zY z lo hi (st.getD 1)).length<=sizeLine then .ok (.str (zY z lo hi (st.getD 1))) else .bad) Q:=po
  by_cases c:st.getD 1≠0/\(zY z lo hi (st.getD 1)).length<=sizeLine
  ·rw [if_pos c] at po
   obtain ⟨l,rfl,el⟩:=gF pl
   obtain ⟨u,rfl,eu⟩:=gF pu
   obtain ⟨k,rfl,ek⟩:=gF pk
   refine ⟨"str",_,PySem.F.slot_str_getitem.lookup,typeIs_str s z t,wpAny_getItem_str_slice (l:=l) (u:=u) (st:=k) hs (by rw [ek]; simpa using c.1) ?_⟩
   have c2:=c.2
   unfold sliceMade slicePicked
   rw [el,eu,ek]
   unfold zY at c2 po
   by_cases q:(st.getD 1 == 1&&(Builtin.Str.strSliceIndices lo hi (st.getD 1) z.length).length == z.length)=true
   ·rw [if_pos q] at c2 po ⊢
    exact ⟨.str z,H,I,⟨t,rfl⟩,po _ F H sb .refl (.str c2)⟩
   ·rw [if_neg q] at c2 po ⊢
    exact ⟨c2,.str _,H,I.tok _,⟨_,rfl⟩,po _ F H sb .refl (.str c2)⟩
  ·rw [if_neg c] at po; exact po.elim
 | _=>exact po.elim
theorem Zz {lo hi st:Option Expr} {l u k:Option (Sl->Out (D×Sl))} (hK:C.K=X.K) (he:PE X e (tE C own ma fa)) (hl:PO X lo (tO C own (gE l))) (hu:PO X hi (tO C own (gE u))) (hk:PO X st (tO C own (gE k))) (hma:ma≠.any:=by decide) :
  PE X (.Subscript e (.Slice lo hi st p2) pos) (tE C own .sh (VB fa l u k)):=by
 refine jw (Yg (qfQ (C:=C) hK) (uc he hma) hl hu hk) fun σ H Q ⟨F,ρ,rp,h⟩=>⟨F,ρ,rp,Po.bind h fun v F1 H1 d ρ1 rp1 c1 mo1 h1=>?_⟩
 refine ⟨F1,ρ1,rp1,Po.bindO h1 fun F2 H2 a ρ2 rp2 c2 h2=>⟨F2,ρ2,rp2,Po.bindO h2 fun F3 H3 b ρ3 rp3 c3 h3=>⟨F3,ρ3,rp3,Po.bindO h3 fun F4 H4 c ρ4 rp4 c4 h4=>?_⟩⟩⟩
 exact ⟨F4,d,rp4.sub,((mo1.mono c2.grow).mono c3.grow).mono c4.grow,PoV.of rp4 h4⟩
end
noncomputable def Its (x:Str):It:=⟨fun i _=>i < x.cps.size,fun i H v H'=>H'=H/\∃ c,x.cps[i]?=some c/\v=.str ⟨#[c]⟩,fun i _=>x.cps.size<=i⟩
noncomputable def vd (x:Str):List D:=x.cps.toList.map fun c=>.str ⟨#[c]⟩
theorem VD {P:Program} {w:World} {K:Frag} {tg:Expr} (it:Addr) (x:Str) (t:Tok) (ty:String) (hn:["enumerate", "zip", "dict_itemiterator", "dict_reverseitemiterator", "odict_iterator", "itertools.zip_longest", "itertools.pairwise"].contains ty=false)
  (W:∀ A:Around,A.handled=none->Walks P w A it [it] [it] x.cps.size (SignAt x) (fun i h=>h.IsStrIter it ty x t i)) (sf:∀ (A:Around) (i:Nat) (s:Shared) (Q:Value->Shared->Prop) (E:Value->Shared->Prop),s.heap.IsStrIter it ty x t i->Q (.ref it) s->wpAny (model P w) A (pyIter (.ref it)) Q E s) :
  Turn P w K tg (Its x) [it] it (fun i h=>h.IsStrIter it ty x t i/\i<=x.cps.size) where
 mem:=by simp
 obj:=fun i h st b hb=>by
  have e:b=it:=by simpa using hb
  subst e
  obtain ⟨o,e,c,d⟩:=st.1
  exact ⟨o,e,fun v z=>by rw [d] at z; cases z⟩
 keep:=fun i h h' st k=>by
  obtain ⟨⟨o,e,r⟩,hi⟩:=st
  exact ⟨⟨o,k it (by simp) o e,r⟩,hi⟩
 item:=by
  intro X hP hw hK hc i pins s σ H E I hf st hg
  subst hP hw hK
  obtain ⟨f0,f1,f2,f3,f4,f5⟩:=hf it (by simp)
  refine (W X.A (I.ok.hd hc)).item i s _ _ hg st.1 fun v h' tk hP st' kp=>?_
  have I1:Inv X pins σ H { s with heap:=h',toks:=tk }:=I.turned (t':=tk) (fun b o hb e=>kp b o (by simpa using hb) e) f0 f1 f3 f4 f5
  obtain ⟨o,e,c,d⟩:=id st'
  obtain ⟨c',u,h1,h2⟩:∃ c' u,x.cps[i]?=some c'/\v=Value.str ⟨#[c']⟩ u:=by
   unfold SignAt at hP
   first
    | exact hP
    | (obtain ⟨c',u,h1,h2⟩:=hP; exact ⟨c',u,h1,h2⟩)
    | (obtain ⟨c',h1,u,h2⟩:=hP; exact ⟨c',u,h1,h2⟩)
    | (obtain ⟨u,c',h1,h2⟩:=hP; exact ⟨c',u,h1,h2⟩)
  subst h2
  exact ⟨_,rfl,XR (s:={ s with heap:=h',toks:=tk }) e c d hn ⟨.str ⟨#[c']⟩,H,I1,⟨u,rfl⟩,⟨rfl,c',h1,rfl⟩,⟨st',hg⟩,fun b hb=>(hf b hb).1⟩⟩
 done:=by
  intro X hP hw hK hc i pins s σ H E I hf st hg
  subst hP hw hK
  obtain ⟨f0,f1,f2,f3,f4,f5⟩:=hf it (by simp)
  have hi:i=x.cps.size:=Nat.le_antisymm st.2 hg
  subst hi
  exact (W X.A (I.ok.hd hc)).done s _ _ st.1 fun h' tk kp=>⟨rfl,I.turned (t':=tk) (fun b o hb e=>kp b o (by simpa using hb) e) f0 f1 f3 f4 f5⟩
 self:=fun A i s Q E st h=>sf A i s Q E st.1 h
theorem qcT {K:Frag} {F:Hp} {x:Str}:ItIs K F (Its x) (vd x) where
 go:=fun i H hi _=>by
  have:i < x.cps.size:=by simpa [vd] using hi
  exact this
 yld:=fun i Fi H v H' d e s1 s2 y=>by
  obtain ⟨rfl,c,h1,rfl⟩:=y
  have e:d=.str ⟨#[c]⟩:=by
   unfold vd at e
   rw [List.getElem?_map] at e
   have h1:x.cps.toList[i]?=some c:=by simpa using h1
   rw [h1] at e
   exact (Option.some.inj e).symm
  subst e
  exact ⟨Fi,.refl,s2,.str (Vu c)⟩
 stop:=fun i H hi _=>by
  have:x.cps.size<=i:=by simpa [vd] using hi
  exact this
noncomputable def jQ:D->Out (List D)
 | .lst xs=>.ok xs
 | .tup xs=>.ok xs
 | .str x=>.ok (vd x)
 | _=>.bad
noncomputable def vj (f:Sl->Out (D×Sl)):Sl->Out (List D×Sl):=fun ρ=>(f ρ).bind fun p=>(jQ p.1).bind fun ds=>.ok (ds,p.2)
section
variable {X:Cx} {C:Ct} {own:List Nat} {tg e:Expr} {f:Sl->Out (D×Sl)} {m:Mo} {pos:Pos}
theorem qcU {l:Expr} {tl:TE} (hl:PE X l tl):PI X tg l (fun σ H R=>tl σ H fun x H1=>(∃ a,x=.ref a/\(((∃ xs,SqL X.K H1 a xs)/\R (Itl X.K a) H1)\/((∃ xs,SqT X.K H1 a xs)/\R (Itt X.K a) H1)))\/∃ z,x=.str z/\R (Its z) H1):=by
 refine ⟨?_⟩
 intro pins s σ H R I h
 refine thn (hl pins s σ H _ I h) fun v s1 ⟨x,H1,I1,r1,q1⟩=>?_
 have fp:∀ b∈[s1.heap.objs.size],JJ X pins H1 b:=fun b hb=>by
  have e:b=s1.heap.objs.size:=by simpa using hb
  subst e
  exact I1.fpOk (Nat.le_refl _) (I1.hok.fresh (Nat.le_refl _))
 rcases q1 with ⟨a,rfl,q⟩ | ⟨z,rfl,q⟩
 ·cases r1
  rcases q with ⟨⟨xs,hq⟩,q⟩ | ⟨⟨xs,hq⟩,q⟩
  ·obtain ⟨its,rv,p,hz⟩:=I1.list hq
   refine wpAny_pyIter_list p.isList ?_
   exact ⟨s1.heap.objs.size,[s1.heap.objs.size],_,_,H1,rfl,I1.kept (t':=s1.toks) fun b o e=>Heap.get?_push_of_some _ e,Uk a _,⟨_,Heap.get?_push_size _ rfl,rfl,rfl⟩,fp,q⟩
  ·obtain ⟨its,rv,p,hz⟩:=I1.tuple hq
   refine wpAny_pyIter_tuple (show s1.heap.IsTuple a its.toArray from p) ?_
   exact ⟨s1.heap.objs.size,[s1.heap.objs.size],_,_,H1,rfl,I1.kept (t':=s1.toks) fun b o e=>Heap.get?_push_of_some _ e,Ws a _,⟨_,Heap.get?_push_size _ rfl,rfl,rfl⟩,fp,q⟩
 ·obtain ⟨t,rfl⟩:=r1
  cases ha:z.cps.all (· < 128) with
  | true=>
   refine wpAny_pyIter_ascii ha ?_
   exact ⟨s1.heap.objs.size,[s1.heap.objs.size],_,_,H1,rfl,I1.kept (t':=s1.toks) fun b o e=>Heap.get?_push_of_some _ e,VD _ z t "str_ascii_iterator" (by decide) (fun A hA=>Walks.strAscii hA _ z t) (fun A i s Q E st h=>wpAny_pyIter_striter_ascii st h),⟨⟨_,Heap.get?_push_size _ rfl,rfl,rfl⟩,Nat.zero_le _⟩,fp,q⟩
  | false=>
   refine wpAny_pyIter_wide ha ?_
   exact ⟨s1.heap.objs.size,[s1.heap.objs.size],_,_,H1,rfl,I1.kept (t':=s1.toks) fun b o e=>Heap.get?_push_of_some _ e,VD _ z t "str_iterator" (by decide) (fun A hA=>Walks.strWide hA _ z t) (fun A i s Q E st h=>wpAny_pyIter_striter_wide st h),⟨⟨_,Heap.get?_push_size _ rfl,rfl,rfl⟩,Nat.zero_le _⟩,fp,q⟩
theorem qZ (hK:C.K=X.K) (h:PE X e (tE C own m f)) (hm:m≠.any:=by decide):PI X tg e (tIt C own (vj f)):=by
 refine qaX (qcU (uc h hm)) fun σ H R ⟨F,ρ,rp,h⟩=>⟨F,ρ,rp,PoI.bindV h fun v F1 H1 d ρ1 rp1 c1 mo1 h1=>?_⟩
 have mo1:Is C.K F1 v d:=mo1
 cases mo1 with
 | lst p t=>exact .inl ⟨_,rfl,.inl ⟨⟨_,by rw [<-hK]; exact rp1.sub.seq p⟩,by rw [<-hK]; exact h1 _ F1 H1 rp1 c1 (qcK p t)⟩⟩
 | tup p t=>exact .inl ⟨_,rfl,.inr ⟨⟨_,by rw [<-hK]; exact qF rp1.sub p⟩,by rw [<-hK]; exact h1 _ F1 H1 rp1 c1 (qcL p t)⟩⟩
 | str hz=>exact .inr ⟨_,rfl,h1 _ F1 H1 rp1 c1 qcT⟩
 | _=>exact h1.elim
end
end L2.D2
namespace L2.D2
open PySem PySem.Spec PySem.Calls PyProof.Rows PySem.W Builtin Builtin.ObjectAttr Builtin.Getset_descriptor
noncomputable def xcB (K:Frag) (C:Addr):Bool:=decide (subIn K (.ref C) (.type "BaseException")=some true)&&decide (findIn K (.ref C) "__getattribute__"=some (some (.builtin "BaseException.__getattribute__")))&&decide (findIn K (.ref C) "__getattr__"=some none) &&
 decide (findIn K (.ref C) "__class__"=some (some (.builtin "object.__class__")))&&decide (mroIn K C (.type "object")=some true)&&(clsIn K C).isSome
end L2.D2
namespace L2.D2
open PySem PySem.Spec PyProof.Rows
theorem VE {P:Program} {w:World} {K:Frag} {mg:Str->Option Value} {base:Heap} {N:List Str} {qual:Str} {scope:Scope} {f:Addr} {cd:Value} {A:Around} {outer:List Env} {s0:Shared} {H0:Hp} {E:XK} {C:Ct} (h:C.E=E):Yb (cxk P w K mg base N qual scope f cd A outer s0 H0 E) C:=by
 subst h
 exact qcQ
noncomputable def qfd (ca:Str->Addr) (cs:List Str) (c:Str):Option Addr:=if c∈cs then some (ca c) else none
noncomputable def qfe (ca:Str->Addr) (cs:List Str) (x:Str) (C:Addr):Option Bool:=if C∈cs.map ca then some (decide (C=ca x)) else none
structure Xs (K:Frag) (cv:Str->Value) (ca:Str->Addr) (cs:List Str) (top:Str):Prop where
 val:∀ c∈cs,cv c=.ref (ca c)
 own:∀ c∈cs,PySem.W.exmOne K (.ref (ca c)) (cv top)=some true
 cls:∀ c∈cs,xcB K (ca c)=true
 kit:∀ c∈cs,∀ d∈cs,PySem.W.kitOne K (.ref (ca c)) (.ref (ca d))=some (decide (ca c=ca d))
 ve:∀ c∈cs,PySem.W.kitOne K (.ref (ca c)) (.type "ValueError")=some true
section
variable {K:Frag} {cv:Str->Value} {ca:Str->Addr} {cs:List Str} {top:Str}
theorem Xs.hit (z:Xs K cv ca cs top):∀ c Cc,qfd ca cs c=some Cc->cv c=.ref Cc/\PySem.W.exmOne K (.ref Cc) (cv top)=some true:=fun c Cc h=>by
 unfold qfd at h
 split at h
 ·cases h
  exact ⟨z.val c (by assumption),z.own c (by assumption)⟩
 ·cases h
theorem Xs.ans (z:Xs K cv ca cs top) {x:Str} (hx:x∈cs):∀ Cc b,qfe ca cs x Cc=some b->xcB K Cc=true/\PySem.W.kitOne K (.ref Cc) (.ref (ca x))=some b:=fun Cc b h=>by
 unfold qfe at h
 split at h
 ·rename_i hm
  obtain ⟨c,hc,rfl⟩:=List.mem_map.mp hm
  cases h
  exact ⟨z.cls c hc,z.kit c hc x hx⟩
 ·cases h
end
section
variable {prog:Program} {w:World} {A:Around} {E:Value->Shared->Prop} {s:Shared}
theorem yH:entryFor table "dict.update.loop"=some Builtin.«dict.update.loop»:=entryFor_of_tree (by kernel_rfl)
theorem jV:plainId "dict.update.loop"=true:=by decide +kernel
def Yh (h:Heap) (v key val:Value):Prop:=∃ p o n,v=.ref p/\h.get? p=some o/\o.cls=.type "tuple"/\o.data=.seq #[key,val] n
end
noncomputable def QA:D->Option Key
 | .int i=>some (.inl i)
 | .str x=>some (.inr x)
 | _=>none
noncomputable def Kf (kvs:List (Key×D)) (k:Key) (d:D):List (Key×D):=if kvs.any (fun p=>decide (p.1=k)) then kvs.map fun p=>if p.1=k then (p.1,d) else p else kvs++[(k,d)]
noncomputable def ZA:D->Option (Key×D)
 | .tup [k,v]=>(QA k).map fun k=>(k,v)
 | _=>none
noncomputable def yI:List D->Option (List (Key×D))
 | []=>some []
 | d::ds=>match ZA d,yI ds with
  | some p,some ps=>some (p::ps)
  | _,_=>none
theorem IsK.any {K:Frag} {F:Hp} {k:Key}:∀ {kv:List (Key×V)} {ks:List (Key×D)},IsK K F kv ks->(kv.any fun p=>decide (p.1=k))=(ks.any fun p=>decide (p.1=k))
 | _,_,.nil=>rfl
 | _,_,.cons h t=>by rw [List.any_cons,List.any_cons,IsK.any t]
theorem IsK.repl {K:Frag} {F:Hp} {k:Key} {v:V} {d:D} (i:Is K F v d):∀ {kv:List (Key×V)} {ks:List (Key×D)},IsK K F kv ks->IsK K F (kv.map fun p=>if p.1=k then (p.1,v) else p) (ks.map fun p=>if p.1=k then (p.1,d) else p)
 | _,_,.nil=>.nil
 | _,_,.cons (k:=k') h t=>by
  rw [List.map_cons,List.map_cons]
  by_cases e:k'=k
  ·simp only [e,if_true]; exact .cons i (IsK.repl i t)
  ·simp only [e,if_false]; exact .cons h (IsK.repl i t)
theorem IsK.snoc {K:Frag} {F:Hp} {k:Key} {v:V} {d:D} (i:Is K F v d):∀ {kv:List (Key×V)} {ks:List (Key×D)},IsK K F kv ks->IsK K F (kv++[(k,v)]) (ks++[(k,d)])
 | _,_,.nil=>.cons i .nil
 | _,_,.cons h t=>.cons h (IsK.snoc i t)
theorem IsK.put {K:Frag} {F:Hp} {k:Key} {v:V} {d:D} {kv:List (Key×V)} {ks:List (Key×D)} (h:IsK K F kv ks) (i:Is K F v d):IsK K F (zE kv k v) (Kf ks k d):=by
 unfold zE Kf
 rw [h.any]
 by_cases e:(ks.any fun p=>decide (p.1=k))=true
 ·rw [if_pos e,if_pos e]; exact IsK.repl i h
 ·rw [if_neg e,if_neg e]; exact IsK.snoc i h
theorem VF {K:Frag} {F:Hp}:∀ {pv:List (Key×V)} {ps:List (Key×D)} {kv:List (Key×V)} {ks:List (Key×D)},IsK K F pv ps->IsK K F kv ks->IsK K F (pv.foldl (fun l p=>zE l p.1 p.2) kv) (ps.foldl (fun l p=>Kf l p.1 p.2) ks)
 | _,_,_,_,.nil,h=>h
 | _,_,_,_,.cons i t,h=>by
  rw [List.foldl_cons,List.foldl_cons]
  exact VF t (h.put i)
def qff (p:Key×V) (q:Key×Value×Value):Prop:=p.1=q.1/\RelV p.2 q.2.2
theorem Yi:∀ {pv:List (Key×V)} {tr:List (Key×Value×Value)} {kv:List (Key×V)} {vs:List (Key×Value)},Paired qff pv tr->KV kv vs->KV (pv.foldl (fun l p=>zE l p.1 p.2) kv) (tr.foldl (fun l p=>stored l p.1 p.2.2) vs)
 | _,_,_,_,.nil,h=>h
 | _,_,_,_,.cons r t,h=>by
  rw [List.foldl_cons,List.foldl_cons]
  refine Yi t ?_
  rw [r.1]
  exact h.put _ r.2
theorem VG:∀ {pv:List (Key×V)} {kv:List (Key×V)},(pv.foldl (fun l p=>zE l p.1 p.2) kv).length<=kv.length+pv.length
 | [],kv=>Nat.le_refl _
 | p::pv,kv=>by
  have h1:=@VG pv (zE kv p.1 p.2)
  have h2:=ub kv p.1 p.2
  rw [List.foldl_cons,List.length_cons]
  omega
section
variable {X:Cx} {C:Ct} {pins:List (Addr×Obj)} {σ:St} {F H:Hp} {s:Shared}
theorem yD {v:V} {u:Value} {d:D} {k:Key} (i:Is C.K F v d) (r:RelV v u) (e:QA d=some k):xw k u=true:=by
 cases d with
 | int z=>cases i; cases e; obtain ⟨t,rfl⟩:=r; exact QC z t
 | str z=>cases i; cases e; obtain ⟨t,rfl⟩:=r; exact QD z t
 | _=>cases e
theorem VH (hK:C.K=X.K) (I:Inv X pins σ H s) (sb:Same F H):∀ {vs:List V} {us:List Value} {ds:List D} {ps:List (Key×D)},IsL C.K F vs ds->Vals vs us->yI ds=some ps ->
  ∃ (pv:List (Key×V)) (tr:List (Key×Value×Value)),IsK C.K F pv ps/\Paired qff pv tr/\tr.length=us.length/\pv.length=us.length/\∀ (j:Nat) (p:Key×Value×Value),tr[j]?=some p->∃ v,us[j]?=some v/\xw p.1 p.2.1=true/\Yh s.heap v p.2.1 p.2.2
 | _,_,_,_,.nil,.nil,e=>by cases e; exact ⟨[],[],.nil,.nil,rfl,rfl,fun j p e=>by simp at e⟩
 | _,_,_,_,.cons (d:=d) (ds:=ds) i t,.cons (b:=u) r rs,e=>by
  unfold yI at e
  cases q1:ZA d with
  | none=>rw [q1] at e; cases e
  | some kd=>
   cases q2:yI ds with
   | none=>rw [q1,q2] at e; cases e
   | some rest=>
    rw [q1,q2] at e
    cases e
    obtain ⟨pv,tr,h1,h2,h3,h3',h4⟩:=VH hK I sb t rs q2
    unfold ZA at q1
    split at q1
    ·rename_i dk dv
     obtain ⟨k,hk,rfl⟩:=Option.map_eq_some_iff.mp q1
     cases i with
     | @tup a xs _ hq il=>
      cases il with
      | @cons xk _ xr _ ik il2=>
       cases il2 with
       | @cons xv _ xr2 _ iv il3=>
        cases il3
        cases r
        obtain ⟨its,rv,⟨o,ho,hc,n,hd⟩,_⟩:=I.tuple (show SqT X.K H a [xk,xv] by rw [<-hK]; exact qF sb hq)
        cases rv with
        | @cons _ uk _ _ rk rv2=>
         cases rv2 with
         | @cons _ uv _ _ rv3 rv4=>
          cases rv4
          refine ⟨(k,xv)::pv,(k,uk,uv)::tr,.cons iv h1,.cons ⟨rfl,rv3⟩ h2,by simp [h3],by simp [h3'],fun j p e=>?_⟩
          cases j with
          | zero=>
           simp at e
           subst e
           exact ⟨_,rfl,yD ik rk hk,a,o,n,rfl,ho,hc,hd⟩
          | succ j=>simpa using h4 j p (by simpa using e)
    ·cases q1
noncomputable def ZB (kvs:List (Key×D)) (k:Key):Bool:=kvs.any fun p=>decide (p.1=k)
noncomputable def inA:D->D->Out D
 | x,.dct kvs=>match QA x with
  | some k=>.ok (.bl (ZB kvs k))
  | none=>.bad
 | x,y=>qdL x y
noncomputable def gG:D->D->Out D
 | x,.dct kvs=>match QA x with
  | some k=>.ok (.bl (!ZB kvs k))
  | none=>.bad
 | x,y=>WA x y
theorem VI {K:Frag} {kv:List (Key×V)} {ks:List (Key×D)} {k:Key} (h:IsK K F kv ks):(JK kv k).isSome=ZB ks k:=by
 rw [<-gp,h.any]; rfl
theorem qdR {v:V} {d:D} {k:Key} (h:TopIs C.K F H v d) (e:QA d=some k):v=kV k:=by
 cases d with
 | int z=>cases e; exact h.int
 | str z=>cases e; exact h.str.1
 | _=>cases e
theorem qcV (hK:C.K=X.K) (hu:X.A.units+64 < cLine):OpD X C .sh (compareOp .In) inA:=by
 intro pins s σ H x y v u Q I rx ry h
 obtain ⟨F,dx,dy,sb,tx,ty,po⟩:=h
 by_cases hd:∃ kvs,dy=.dct kvs
 ·obtain ⟨kvs,rfl⟩:=hd
  cases q:QA dx with
  | none=>unfold inA at po; simp only [q] at po; exact po.elim
  | some k=>
   unfold inA at po
   simp only [q] at po
   obtain ⟨a,kv,rfl,hH,ik⟩:=ty.dct sb
   cases ry
   have ex:=qdR tx q
   subst ex
   refine qfN (by omega) I (DGet.k (k:=k) hH) rx fun s' I'=>⟨.bl _,H,I',rfl,?_⟩
   rw [VI ik]
   exact po _ F H sb .refl (.bl _)
 ·have e:inA dx dy=qdL dx dy:=by
   cases dy <;> first | rfl | exact absurd ⟨_,rfl⟩ hd
  rw [e] at po
  exact qez hK hu pins s σ H x y v u Q I rx ry ⟨F,dx,dy,sb,tx,ty,po⟩
theorem uD (hK:C.K=X.K) (hu:X.A.units+64 < cLine):OpD X C .sh (compareOp .NotIn) gG:=by
 intro pins s σ H x y v u Q I rx ry h
 obtain ⟨F,dx,dy,sb,tx,ty,po⟩:=h
 by_cases hd:∃ kvs,dy=.dct kvs
 ·obtain ⟨kvs,rfl⟩:=hd
  cases q:QA dx with
  | none=>unfold gG at po; simp only [q] at po; exact po.elim
  | some k=>
   unfold gG at po
   simp only [q] at po
   obtain ⟨a,kv,rfl,hH,ik⟩:=ty.dct sb
   cases ry
   have ex:=qdR tx q
   subst ex
   refine qaH (by omega) I (DGet.k (k:=k) hH) rx fun s' I'=>⟨.bl _,H,I',rfl,?_⟩
   rw [VI ik]
   exact po _ F H sb .refl (.bl _)
 ·have e:gG dx dy=WA dx dy:=by
   cases dy <;> first | rfl | exact absurd ⟨_,rfl⟩ hd
  rw [e] at po
  exact Zk hK hu pins s σ H x y v u Q I rx ry ⟨F,dx,dy,sb,tx,ty,po⟩
end
theorem qa3 (t:SetTable) (es:Array (Int×Value)) (h:Int) (x:Value):(layNew t es h x).2.1.led=t.led:=by
 unfold layNew
 cases t.freeSlot h with
 | none=>rfl
 | some p=>
  obtain ⟨sl,wd⟩:=p
  show (SetTable.orStandIn (t.put sl).1 _).led=t.led
  unfold SetTable.orStandIn
  split <;> rfl
theorem Yj {t:SetTable} (es:Array (Int×Value)) (h:Int) (x:Value) (e:t.plain=false):(layNew t es h x).2.1.plain=false:=by
 unfold layNew
 cases t.freeSlot h with
 | none=>rfl
 | some p=>
  obtain ⟨sl,wd⟩:=p
  show (SetTable.orStandIn (t.put sl).1 _).plain=false
  unfold SetTable.orStandIn
  split
  ·exact e
  ·rfl
theorem qa4 {m f v:Nat} {l p:Bool} {hs:Array Int} {t:SetTable} {o:Array Nat} (h:SetTable.laid m f v l p hs=some (t,o)):t.led=l/\t.plain=p:=by
 unfold SetTable.laid at h
 cases e:SetTable.layClean m hs with
 | none=>
  rw [e] at h
  cases h
 | some ow=>
  rw [e] at h
  have h2:=congrArg Prod.fst (Option.some.inj h)
  subst h2
  exact ⟨rfl,rfl⟩
theorem Kg (t:SetTable) (es:Array (Int×Value)) (n:Nat):(relayAll t es n).2.1.led=t.led/\(t.plain=false->(relayAll t es n).2.1.plain=false):=by
 unfold relayAll
 cases e:t.relaid (es.map (·.1)) n with
 | none=>exact ⟨rfl,fun _=>rfl⟩
 | some q=>
  obtain ⟨t',o⟩:=q
  have hk:=qa4 (show SetTable.laid _ _ _ _ _ _=some (t',o) from e)
  dsimp only
  split
  ·exact ⟨hk.1,fun z=>hk.2.trans z⟩
  ·exact ⟨rfl,fun _=>rfl⟩
noncomputable def kI (ks:List Str) (x:Str):List Str:=if x∈ks then ks else ks++[x]
noncomputable def jJ (es:Array (Int×Value)) (ep:Nat) (t:SetTable):Obj:={ cls:=.type "set",dict:=none,data:=.set es ep t,slots:=#[] }
structure SetD (prog:Program) (w:World) (es:Array (Int×Value)) (t:SetTable) (ks:List Str):Prop where
 el:ElemsOf (PySem.strKind prog w) es.toList
 perm:(es.toList.map fun e=>strOf e.2).Perm ks
 nd:ks.Nodup
 bd:es.size < scanBound
 fits:t.fits es.size=true
 led:t.led=!(w.params.followText "set-order")
 plain:ks≠[]->t.plain=false
def SetS (prog:Program) (w:World) (h:Heap) (a:Addr) (ks:List Str):Prop:=∃ es ep t,h.get? a=some (jJ es ep t)/\SetD prog w es t ks
section
variable {prog:Program} {w:World} {A:Around} {E:Value->Shared->Prop} {s:Shared}
theorem Yk {l:List (Int×Value)} (h:ElemsOf (PySem.strKind prog w) l) {e:Int×Value} (he:e∈l):∃ x t,e.2=.str x t:=by
 obtain ⟨⟨k,hk,_⟩,_⟩:=h e he
 obtain ⟨t,ht⟩:=Value.isStrOf_shape hk
 exact ⟨k,t,ht⟩
theorem isS {x y:Str} {t:Tok}:(PySem.strKind prog w).is x (.str y t)=decide (x=y):=by
 have h:(PySem.strKind prog w).is y (.str y t)=true:=by
  show Value.isStrOf y (.str y t)=true
  simp [Value.isStrOf]
 exact KeyKind.is_eq_decide h x
theorem SetD.mem {es:Array (Int×Value)} {t:SetTable} {ks:List Str} (h:SetD prog w es t ks) {x:Str}:x∈ks↔∃ e∈es.toList,(PySem.strKind prog w).is x e.2=true:=by
 rw [<-h.perm.mem_iff,List.mem_map]
 constructor
 ·rintro ⟨e,he,z⟩
  obtain ⟨y,t,hy⟩:=Yk h.el he
  refine ⟨e,he,?_⟩
  rw [hy] at z ⊢
  rw [isS]
  exact decide_eq_true z.symm
 ·rintro ⟨e,he,z⟩
  obtain ⟨y,t,hy⟩:=Yk h.el he
  refine ⟨e,he,?_⟩
  rw [hy] at z ⊢
  rw [isS] at z
  exact (of_decide_eq_true z).symm
theorem SetD.size {es:Array (Int×Value)} {t:SetTable} {ks:List Str} (h:SetD prog w es t ks):es.size=ks.length:=by
 have e:=h.perm.length_eq
 simpa using e
theorem GR {h:Heap} {a:Addr} {es es':Array (Int×Value)} {ep:Nat} {t t':SetTable} (ho:h.get? a=some (jJ es ep t)):(h.update a (Obj.putSet es' t')).get? a=some (jJ es' (ep+1) t'):=by
 have e:=Heap.get?_update_self (Obj.putSet es' t') ho (by rw [putSet_of (o:=jJ es ep t) es' t' rfl]; rfl)
 rw [putSet_of (o:=jJ es ep t) es' t' rfl] at e
 exact e
theorem SetD.more {es es1:Array (Int×Value)} {t t1:SetTable} {ks:List Str} {x:Str} {tk:Tok} (h:SetD prog w es t ks) (nx:x∉ks) (hr:ks.length+1 < scanBound)
  (hp:es1.toList.Perm (es.toList++[((PySem.strKind prog w).hash x,.str x tk)])) (hf:t1.fits es1.size=true) (hl:t1.led=t.led) (hq:t1.plain=false):SetD prog w es1 t1 (kI ks x):=by
 have ex:kI ks x=ks++[x]:=if_neg nx
 have hz:es1.size=ks.length+1:=by
  rw [<-Array.length_toList,hp.length_eq,List.length_append,Array.length_toList,h.size]
  rfl
 rw [ex]
 refine ⟨(h.el.push (by rw [isS]; exact decide_eq_true rfl) rfl).perm hp,?_,?_,?_,hf,hl.trans h.led,fun _=>hq⟩
 ·refine (hp.map _).trans ?_
  rw [List.map_append]
  exact h.perm.append (List.Perm.refl _)
 ·exact List.nodup_append.mpr ⟨h.nd,by simp,fun a ha b hb=>by rw [List.mem_singleton.mp hb]; exact fun z=>nx (z ▸ ha)⟩
 ·rw [hz]
  exact hr
theorem qa5 {a:Addr} {ks:List Str} {x:Str} {tk:Tok} {Q:Bool->Shared->Prop} (hS:SetS prog w s.heap a ks) (hr:ks.length+1 < scanBound)
  (h:∀ h' b,Heap.SameBut a s.heap h'->SetS prog w h' a (kI ks x)->Q b { s with heap:=h' }):wpAny (model prog w) A (setAddHashed a (.str x tk) ((PySem.strKind prog w).hash x)) Q E s:=by
 obtain ⟨es,ep,t,ho,d⟩:=hS
 have hk:(PySem.strKind prog w).is x (.str x tk)=true:=by rw [isS]; exact decide_eq_true rfl
 unfold setAddHashed setAddHashedIn
 refine wpAny_holding (wpAny_bind (wpAny_setState_of ho rfl d.fits ?_))
 dsimp only
 rw [byScan_of rfl d.bd d.el,if_pos rfl]
 unfold setAddByScan
 refine wpAny_bind (wpAny_bind (wpAny_rule (wpAny_bind (wpAny_setScan_of hk ho rfl d.fits d.el ?_))))
 cases hq:es.toList.findIdx? (fun e=>(PySem.strKind prog w).is x e.2) with
 | some j=>
  obtain ⟨hj,hp,_⟩:=List.findIdx?_eq_some_iff_getElem.mp hq
  have hx:x∈ks:=d.mem.mpr ⟨_,List.getElem_mem hj,hp⟩
  have q:=h s.heap false (Heap.SameBut.refl a s.heap) ⟨es,ep,t,ho,by rw [show kI ks x=ks from if_pos hx]; exact d⟩
  dsimp only
  exact wpAny_pure (wpAny_pure q)
 | none=>
  have hx:x∉ks:=fun z=>by
   obtain ⟨e,he,q⟩:=d.mem.mp z
   have:=List.findIdx?_eq_none_iff.mp hq e he
   rw [q] at this
   cases this
  dsimp only
  have hp:=layNew_perm t es ((PySem.strKind prog w).hash x) (.str x tk)
  have hf:=layNew_fits t es ((PySem.strKind prog w).hash x) (.str x tk)
  have hl:=qa3 t es ((PySem.strKind prog w).hash x) (.str x tk)
  have hn:=fun e=>Yj (t:=t) es ((PySem.strKind prog w).hash x) (.str x tk) e
  generalize layNew t es ((PySem.strKind prog w).hash x) (.str x tk)=L at hp hf hl hn ⊢
  obtain ⟨es1,t1,wd,gv⟩:=L
  dsimp only at hp hf hl hn ⊢
  rw [Array.toList_push] at hp
  have tail:∀ t2:SetTable,t2.fits es1.size=true->t2.led=t.led->t2.plain=false->wpAny (model prog w) A (do
    storeSet a es1 t2
    if (!wd&&t2.tooFull)=true then do
      (match (relayAll t2 es1 (SetTable.grown es1.size)).2.2 with | true=>rule "set.scan.the-table-gave-way" | false=>pure ())
      storeSet a (relayAll t2 es1 (SetTable.grown es1.size)).1 (relayAll t2 es1 (SetTable.grown es1.size)).2.1
      pure (some true)
     else pure (some true)) (fun r s'=>∃ h',s'={ s with heap:=h' }/\r=some true/\Heap.SameBut a s.heap h'/\SetS prog w h' a (kI ks x)) E s:=by
   intro t2 f2 l2 p2
   have d2:=d.more hx hr hp f2 l2 p2
   refine wpAny_bind (wpAny_storeSet_of ho rfl ?_ (fits_of_scanBound d2.bd))
   have ho1:=GR (es':=es1) (t':=t2) ho
   have sb:=Heap.SameBut.update s.heap a (Obj.putSet es1 t2)
   split
   ·have rp:=relayAll_perm t2 es1 (SetTable.grown es1.size)
    have rf:=relayAll_fits t2 es1 (SetTable.grown es1.size)
    have rk:=Kg t2 es1 (SetTable.grown es1.size)
    generalize relayAll t2 es1 (SetTable.grown es1.size)=R at rp rf rk ⊢
    obtain ⟨es2,t3,g2⟩:=R
    dsimp only at rp rf rk ⊢
    have d3:=d.more hx hr (rp.trans hp) rf (rk.1.trans l2) (rk.2 p2)
    refine wpAny_bind ?_
    have go:wpAny (model prog w) A (storeSet a es2 t3 >>= fun _=>pure (some true)) (fun r s'=>∃ h',s'={ s with heap:=h' }/\r=some true/\Heap.SameBut a s.heap h'/\SetS prog w h' a (kI ks x)) E { s with heap:=s.heap.update a (Obj.putSet es1 t2) }:=
     wpAny_bind (wpAny_storeSet_of ho1 rfl (wpAny_pure ⟨_,rfl,rfl,sb.trans (Heap.SameBut.update _ a _),es2,_,t3,GR ho1,d3⟩) (fits_of_scanBound d3.bd))
    cases g2
    ·exact wpAny_pure go
    ·exact wpAny_rule go
   ·exact wpAny_pure ⟨_,rfl,rfl,sb,es1,_,t2,ho1,d2⟩
  have fin:∀ (r:Option Bool) (s':Shared),(∃ h',s'={ s with heap:=h' }/\r=some true/\Heap.SameBut a s.heap h'/\SetS prog w h' a (kI ks x)) ->
    wpAny (model prog w) A (match r with | some added=>pure added | none=>setAddHashedIn a (.str x tk) ((PySem.strKind prog w).hash x) 99999) Q E s':=by
   rintro r s' ⟨h',rfl,rfl,sb,hS⟩
   exact wpAny_pure (h h' true sb hS)
  have gw:∀ (b:Bool) {s₁:Shared} {Q':Unit->Shared->Prop},Q' () s₁->wpAny (model prog w) A (match b with | true=>rule "set.scan.the-table-gave-way" | false=>pure ()) Q' E s₁:=fun b s₁ Q' q=>by
   cases b
   ·exact wpAny_pure q
   ·exact wpAny_rule q
  refine wpAny_bind (gw _ ?_)
  cases e1:t1.plain with
  | true=>
   rw [if_pos rfl,hashByValue_scannable 8 (x:=.str x tk) rfl]
   refine wpAny_bind (wpAny_pure ?_)
   show wpAny _ _ (storeSet a es1 { t1 with plain:=false } >>= _) _ _ _
   exact wpAny_mono (tail { t1 with plain:=false } (SetTable.fits_plain_off hf) hl rfl) fin fun _ _ z=>z
  | false=>
   rw [if_neg (by simp)]
   refine wpAny_bind (wpAny_pure ?_)
   show wpAny _ _ (storeSet a es1 t1 >>= _) _ _ _
   exact wpAny_mono (tail t1 hf hl e1) fin fun _ _ z=>z
end
theorem ZC (ks:List Str) (x:Str):(kI ks x).length<=ks.length+1:=by
 unfold kI
 split
 ·omega
 ·rw [List.length_append]
  exact Nat.le_refl _
theorem uE:∀ (l ks:List Str),(l.foldl kI ks).length<=ks.length+l.length
 | [],ks=>Nat.le_refl _
 | x::l,ks=>by
  have h1:=uE l (kI ks x)
  have h2:=ZC ks x
  rw [List.foldl_cons,List.length_cons]
  omega
theorem SetS.at {prog:Program} {w:World} {h h':Heap} {a:Addr} {ks:List Str} (hS:SetS prog w h a ks) (k:∀ o,h.get? a=some o->h'.get? a=some o):SetS prog w h' a ks:=
 let ⟨es,ep,t,ho,d⟩:=hS; ⟨es,ep,t,k _ ho,d⟩
section
variable {prog:Program} {w:World} {A:Around} {R:Result->Shared->Prop} {I:Addr} {fp wr:List Addr} {n:Nat} {P:Nat->Value->Prop} {St:Nat->Shared->Prop}
theorem VJ {G:Array GenState->Array GenState->Prop} (W:WalksS prog w A.in1 I fp wr G n P St) (S:Addr) (hSf:S∉fp) (ss:List Str) (hn:ss.length=n) (hv:∀ i v,P i v->∃ x t,ss[i]?=some x/\v=.str x t) (hb:n+1 < scanBound) :
  ∀ (k i:Nat) (s:Shared),n - i=k->i<=n->St i s->SetS prog w s.heap S ((ss.take i).foldl kI []) ->
   (∀ s',Moved (S::wr) G s s'->SetS prog w s'.heap S (ss.foldl kI [])->R (.ok (.ret .none)) s')->codeAny (model prog w) A (.builtin "set.update.loop" ⟨[.ref S,.ref I],[]⟩) R s:=by
 have nw:S∉wr:=fun h=>hSf (W.sub _ h)
 have up:∀ b∈wr,b∈S::wr:=fun b hb=>List.mem_cons_of_mem _ hb
 intro k
 induction k with
 | zero=>
  intro i s hk hi hst hS hR
  have hin:i=n:=by omega
  subst hin
  refine codeAny_builtin F.entry_set_update_loop ?_
  rw [Around.under_plainId F.plain_set_update_loop _]; show wpAny _ A.in1 (pyNext (.ref I) >>= _) _ _ s
  refine wpAny_bind (W.done s _ _ hst fun s' hm=>wpAny_pure (hR s' (hm.mono up) ?_))
  rw [List.take_of_length_le (Nat.le_of_eq hn)] at hS
  exact hS.at fun o e=>hm.heap S o nw e
 | succ k ih=>
  intro i s hk hi hst hS hR
  have hlt:i < n:=by omega
  refine codeAny_builtin F.entry_set_update_loop ?_
  rw [Around.under_plainId F.plain_set_update_loop _]; show wpAny _ A.in1 (pyNext (.ref I) >>= _) _ _ s
  refine wpAny_bind (W.item i s _ _ hlt hst fun v s' hP hst' hm=>?_)
  obtain ⟨x,t,hx,rfl⟩:=hv i v hP
  have hS':SetS prog w s'.heap S ((ss.take i).foldl kI []):=hS.at fun o e=>hm.heap S o nw e
  show wpAny _ A.in1 (holding [Value.str x t] (setAdd S (.str x t)) >>= _) _ _ s'
  refine wpAny_bind (wpAny_holding ?_)
  unfold setAdd
  refine wpAny_holding (wpAny_bind ((PySem.strKind prog w).pyHash (k:=x) (by rw [isS]; exact decide_eq_true rfl) ?_))
  have hroom:((ss.take i).foldl kI []).length+1 < scanBound:=by
   have h1:=uE (ss.take i) []
   rw [List.length_take,List.length_nil] at h1
   omega
  refine qa5 (s:={ s' with toks:=s'.toks+1 }) hS' hroom fun h' b sb hS2=>?_
  have e2:kI ((ss.take i).foldl kI []) x=(ss.take (i+1)).foldl kI []:=by
   rw [List.take_add_one,hx,List.foldl_append]
   rfl
  rw [e2] at hS2
  refine wpAny_pure ⟨plainId_quiet F.plain_set_update_loop _,ih (i+1) _ (by omega) hlt (W.frame _ s' _ _ hst' (Nat.le_succ _) fun b hb o e=>?_) hS2 fun s'' hm'' hS''=>?_⟩
  ·rw [sb.2 b fun z:b=S=>hSf (z ▸ hb)]
   exact e
  ·refine hR s'' (Moved.trans W.gtrans ((hm.mono up).then_heap (Nat.le_succ _) fun b o hb e=>?_) hm'') hS''
   rw [sb.2 b fun z:b=S=>hb (z ▸ List.mem_cons_self)]
   exact e
end
section
variable {prog:Program} {w:World} {A:Around} {E:Value->Shared->Prop} {s:Shared}
abbrev qcW (w:World):Obj:=jJ #[] 0 (.fresh 0 0 (!(w.params.followText "set-order")))
theorem Jd {h:Heap} {a:Addr} (e:h.get? a=some (qcW w)):SetS prog w h a []:=
 ⟨_,_,_,e,⟨fun e he=>by simp at he,by simp,List.nodup_nil,by decide,by rfl,rfl,fun z=>absurd rfl z⟩⟩
theorem qa6 (a:Value) {Q₁:Value->Shared->Prop} (h:Q₁ (.ref s.heap.objs.size) { s with heap:=s.heap.push (qcW w) }) :
  codeAny (model prog w) A (.call (.builtin "set.__new__") ⟨[.type "set",a],[]⟩) (wants Q₁ E) s:=by
 refine codeAny_of_tree ?_; show wpAny _ A.in1 (do checkBuiltinCall "set.__new__" ⟨[.type "set",a],[]⟩; again (.builtin "set.__new__" ⟨[.type "set",a],[]⟩)) _ _ s
 refine wpAny_bind (wpAny_of_eq (PySem.F.newCall_set_1 a) (wpAny_pure ⟨plainId_quiet PySem.F.plain_set_new _,codeAny_builtin PySem.F.entry_set_new ?_⟩)); rw [Around.under_plainId PySem.F.plain_set_new _]
 unfold Builtin.«set.__new__» Builtin.Frozenset.newClass; have hsub:=sub_set_self; obtain ⟨hp,g,d,tk,os⟩:=s; dsimp only; wp_walk
 refine wpAny_askSetting (wpAny_pure ?_); dsimp only; simp only [newObj]
 exact wpAny_bind (wpAny_alloc (wpAny_pure (wpAny_pure h)))
theorem Kh:isSubtype (.type "tuple") (.type "set")=pure false:=by rw [isSubtype_type]; kernel_rfl
theorem zJ:isSubtype (.type "tuple") (.type "frozenset")=pure false:=by rw [isSubtype_type]; kernel_rfl
theorem Yl {vs:List Value} {ss:List Str} (h:StrsAre vs ss) {i:Nat} {v:Value} (e:vs[i]?=some v):∃ x t,ss[i]?=some x/\v=.str x t:=by
 obtain ⟨y,t,e1,e2⟩:=h.item i v e
 exact ⟨y,t,e2,e1⟩
theorem ZD {S l:Addr} {items:Array Value} {ss:List Str} {Q:Unit->Shared->Prop} (hh:A.handled=none) (hS:SetS prog w s.heap S []) (hl:s.heap.IsList l items) (hi:StrsAre items.toList ss) (hb:items.size+1 < scanBound) (hne:l≠S)
  (h:∀ h' tk,SetS prog w h' S (ss.foldl kI [])->(∀ b o,b≠S->s.heap.get? b=some o->h'.get? b=some o)->Q () { s with heap:=h',toks:=tk }) :
  wpAny (model prog w) A (Builtin.Frozenset.updateFrom "set.__init__" S (.ref l)) Q E s:=by
 have hT:s.TypeIs (.ref l) "list":=let ⟨o,e,c,_⟩:=hl; ⟨o,e,c⟩
 unfold Builtin.Frozenset.updateFrom
 refine wpAny_bind (m:=Builtin.Frozenset.isAnySet _) ?_
 unfold Builtin.Frozenset.isAnySet
 refine wpAny_bind (wpAny_isInstance hT PySem.F.sub_list_set ?_)
 refine wpAny_isInstance hT PySem.F.sub_list_frozenset ?_
 rw [if_neg (by decide)]
 refine wpAny_bind (wpAny_typeOf hT ?_)
 rw [if_neg (by decide)]
 refine wpAny_bind (wpAny_pyIter_list hl ?_)
 have hz:s.heap.objs.size≠S:=fun z=>by
  obtain ⟨es,ep,t,ho,_⟩:=hS
  exact Nat.lt_irrefl _ (z ▸ Heap.lt_size ho)
 have hzl:l≠s.heap.objs.size:=by
  obtain ⟨o,e,_⟩:=hl
  exact Nat.ne_of_lt (Heap.lt_size e)
 refine wpAny_bind (wpAny_runValue (VJ ((Walks.list (A:=A.in1) hh _ l hzl items).toS) S ?_ ss (by rw [<-hi.length]; simp) (fun i v e=>Yl hi (by rw [Array.getElem?_toList]; exact e)) hb items.size 0 _ (by omega) (Nat.zero_le _) ⟨⟨_,Heap.get?_push_size _ rfl,rfl,rfl⟩,hl.push _⟩ ?_ ?_))
 ·intro z
  rcases List.mem_cons.mp z with z | z
  ·exact hz z.symm
  ·exact hne (List.mem_singleton.mp z).symm
 ·exact hS.at fun o e=>Heap.get?_push_of_some _ e
 ·intro s' hm hS'
  obtain ⟨h',g',d',tk',os'⟩:=s'
  have eg:g'=s.gens:=hm.gens
  have ed:d'=s.drawn:=hm.drawn
  have eo:os'=s.os:=hm.os
  subst eg ed eo
  refine wpAny_pure (h h' tk' hS' fun b o hb e=>hm.heap b o ?_ (Heap.get?_push_of_some _ e))
  intro z
  rcases List.mem_cons.mp z with z | z
  ·exact hb z
  ·rw [List.mem_singleton.mp z] at e
   exact Nat.lt_irrefl _ (Heap.lt_size e)
theorem Ym {S l:Addr} {items:Array Value} {ss:List Str} {Q:Unit->Shared->Prop} (hh:A.handled=none) (hS:SetS prog w s.heap S []) (hl:s.heap.IsTuple l items) (hi:StrsAre items.toList ss) (hb:items.size+1 < scanBound) (hne:l≠S)
  (h:∀ h' tk,SetS prog w h' S (ss.foldl kI [])->(∀ b o,b≠S->s.heap.get? b=some o->h'.get? b=some o)->Q () { s with heap:=h',toks:=tk }) :
  wpAny (model prog w) A (Builtin.Frozenset.updateFrom "set.__init__" S (.ref l)) Q E s:=by
 have hT:s.TypeIs (.ref l) "tuple":=let ⟨o,e,c,_⟩:=hl; ⟨o,e,c⟩
 unfold Builtin.Frozenset.updateFrom
 refine wpAny_bind (m:=Builtin.Frozenset.isAnySet _) ?_
 unfold Builtin.Frozenset.isAnySet
 refine wpAny_bind (wpAny_isInstance hT Kh ?_)
 refine wpAny_isInstance hT zJ ?_
 rw [if_neg (by decide)]
 refine wpAny_bind (wpAny_typeOf hT ?_)
 rw [if_neg (by decide)]
 refine wpAny_bind (wpAny_pyIter_tuple hl ?_)
 have hz:s.heap.objs.size≠S:=fun z=>by
  obtain ⟨es,ep,t,ho,_⟩:=hS
  exact Nat.lt_irrefl _ (z ▸ Heap.lt_size ho)
 have hzl:l≠s.heap.objs.size:=by
  obtain ⟨o,e,_⟩:=hl
  exact Nat.ne_of_lt (Heap.lt_size e)
 refine wpAny_bind (wpAny_runValue (VJ ((Walks.tuple (A:=A.in1) hh _ l hzl items).toS) S ?_ ss (by rw [<-hi.length]; simp) (fun i v e=>Yl hi (by rw [Array.getElem?_toList]; exact e)) hb items.size 0 _ (by omega) (Nat.zero_le _) ⟨⟨_,Heap.get?_push_size _ rfl,rfl,rfl⟩,?_⟩ ?_ ?_))
 ·intro z
  rcases List.mem_cons.mp z with z | z
  ·exact hz z.symm
  ·exact hne (List.mem_singleton.mp z).symm
 ·obtain ⟨o,e,c⟩:=hl
  exact ⟨o,Heap.get?_push_of_some _ e,c⟩
 ·exact hS.at fun o e=>Heap.get?_push_of_some _ e
 ·intro s' hm hS'
  obtain ⟨h',g',d',tk',os'⟩:=s'
  have eg:g'=s.gens:=hm.gens
  have ed:d'=s.drawn:=hm.drawn
  have eo:os'=s.os:=hm.os
  subst eg ed eo
  refine wpAny_pure (h h' tk' hS' fun b o hb e=>hm.heap b o ?_ (Heap.get?_push_of_some _ e))
  intro z
  rcases List.mem_cons.mp z with z | z
  ·exact hb z
  ·rw [List.mem_singleton.mp z] at e
   exact Nat.lt_irrefl _ (Heap.lt_size e)
set_option maxHeartbeats 3200000 in
theorem Je {l:Addr} {ks:List Str} {Q:Value->Shared->Prop}
  (hup:∀ (A1:Around) (Q1:Unit->Shared->Prop) (E1:Value->Shared->Prop),A1.handled=A.handled->(∀ h' tk,SetS prog w h' s.heap.objs.size ks->(∀ b o,s.heap.get? b=some o->h'.get? b=some o)->Q1 () { s with heap:=h',toks:=tk }) ->
   wpAny (model prog w) A1 (Builtin.Frozenset.updateFrom "set.__init__" s.heap.objs.size (.ref l)) Q1 E1 { s with heap:=s.heap.push (qcW w) })
  (h:∀ h' tk,SetS prog w h' s.heap.objs.size ks->(∀ b o,s.heap.get? b=some o->h'.get? b=some o)->Q (.ref s.heap.objs.size) { s with heap:=h',toks:=tk }) :
  wpAny (model prog w) A (call (.type "set") [.ref l]) Q E s:=by
 have hnew:∀ {Q₁:Value->Shared->Prop},Q₁ (.ref s.heap.objs.size) { s with heap:=s.heap.push (qcW w) }->codeAny (model prog w) A.in1 (.call (.builtin "set.__new__") ⟨[.type "set",.ref l],[]⟩) (wants Q₁ E) s:=fun h=>qa6 (.ref l) h
 unfold qcW jJ at hnew hup
 generalize (!(w.params.followText "set-order"))=led at hnew hup
 obtain ⟨c,tl,hmro⟩:=PySem.F.called_set.mro
 have hmade:=PySem.F.called_set.made
 have hsub:=PySem.F.called_set.sub
 refine wpAny_call (codeAny_of_tree ?_); show wpAny _ _ (callAny (.type "set") _) _ _ _
 refine wpAny_pure ⟨Code.quiet_builtin _ (by decide +kernel),codeAny_builtin PySem.F.entry_type_call ?_⟩; rw [Around.under_plain (weight_type_call_type "set" [.ref l] []) rfl]
 have h1:=PySem.F.called_set.notType
 have h2:=PySem.F.called_set.canCreate
 have hct:=PySem.F.typeCall_set_1 (.ref l)
 repeat (any_goals (first | assumption | wp_step))
 refine codeAny_mono (hnew (Q₁:=fun obj s₁=>obj=.ref s.heap.objs.size/\s₁={ s with heap:=s.heap.push { cls:=.type "set",dict:=none,data:=.set #[] 0 (.fresh 0 0 led) } }) ⟨rfl,rfl⟩) fun r s₁ hr=>?_
 cases r with
 | error e=>exact hr
 | ok fl=>
  cases fl with
  | ret obj=>
   obtain ⟨rfl,rfl⟩:=hr
   have hS:(s.heap.push { cls:=.type "set",dict:=none,data:=.set #[] 0 (.fresh 0 0 led) }).get? s.heap.objs.size=some { cls:=.type "set",dict:=none,data:=.set #[] 0 (.fresh 0 0 led) }:=Heap.get?_push_size _ rfl
   have hT:Shared.TypeIs { s with heap:=s.heap.push { cls:=.type "set",dict:=none,data:=.set #[] 0 (.fresh 0 0 led) } } (.ref s.heap.objs.size) "set":=⟨_,hS,rfl⟩
   have hli:=PySem.F.called_set.init.lookup
   have hbi:=PySem.F.called_set.init.bind (.ref s.heap.objs.size)
   repeat (any_goals (first | assumption | wp_step))
   refine codeAny_mono (codeAny_call_builtin (R:=wants (fun r s₂=>r=.none/\∃ h' tk,s₂={ s with heap:=h',toks:=tk }/\SetS prog w h' s.heap.objs.size ks/\(∀ b o,s.heap.get? b=some o->h'.get? b=some o)) E) PySem.F.called_set.init.plain PySem.F.entry_set_init (check_set_init_1 hT ?_)) fun r₂ s₂ hr₂=>?_
   ·unfold Builtin.«set.__init__» noKeywords
    generalize hU:Builtin.Frozenset.updateFrom=U
    wp_walk
    subst hU
    refine hup _ _ _ rfl fun h' tk hS' hk=>?_
    exact wpAny_pure ⟨rfl,h',tk,rfl,hS',hk⟩
   ·cases r₂ with
    | error e=>exact hr₂
    | ok fl₂=>
     cases fl₂ with
     | ret r=>
      obtain ⟨rfl,h',tk,rfl,hS',hk'⟩:=hr₂
      repeat (any_goals (first | assumption | wp_step))
      exact h _ _ hS' hk'
     | _=>exact hr₂.elim
  | _=>exact hr.elim
end
theorem ye {α:Type}:∀ {xs:List α} {i:Nat} (h:i < xs.length),(xs[i]::xs.eraseIdx i).Perm xs
 | [],_,h=>absurd h (Nat.not_lt_zero _)
 | x::xs,0,h=>List.Perm.refl _
 | x::xs,i+1,h=>(List.Perm.swap _ _ _).trans ((ye (xs:=xs) (i:=i) (Nat.lt_of_succ_lt_succ h)).cons x)
theorem WJ {M:Model} {A:Around} {E:Value->Shared->Prop} {s:Shared} {src:Source} {n:Nat} {Q:Nat->Shared->Prop} (hn:n≠0) (h:∀ i d',i < n->Q i { s with drawn:=d' }):wpAny M A (choose src n) Q E s:=
 fun _ _ _=>⟨hn,h _ _ (Nat.mod_lt _ (Nat.pos_of_ne_zero hn))⟩
theorem Yn {M:Model} {A:Around} {E:Value->Shared->Prop} {α:Type}:∀ (n:Nat) (xs:List α) (s:Shared) {Q:List α->Shared->Prop},n=xs.length->(∀ ys d',ys.Perm xs->Q ys { s with drawn:=d' })->wpAny M A (drawOrder n xs) Q E s
 | 0,xs,s,Q,hn,h=>by
  cases xs with
  | nil=>exact wpAny_pure (h [] s.drawn (List.Perm.refl _))
  | cons x l=>cases hn
 | n+1,[],s,Q,hn,h=>by cases hn
 | n+1,x::l,s,Q,hn,h=>by
  show wpAny M A (choose .order (x::l).length >>= _) Q E s
  refine wpAny_bind (WJ (by simp) fun i d' hi=>?_)
  have e:(x::l)[i]?=some (x::l)[i]:=List.getElem?_eq_getElem hi
  rw [e]
  refine wpAny_bind (Yn n _ _ (by rw [List.length_eraseIdx_of_lt hi]; simp only [List.length_cons] at hn ⊢; omega) fun ys d2 hp=>wpAny_pure (h _ d2 ?_))
  exact (hp.cons _).trans (ye hi)
theorem Yo {α:Type} (next:Nat->Nat):∀ (f k:Nat) (left:List α) (out:Array α),f=left.length->(pickOrder.go next f k left out).toList.Perm (out.toList++left)
 | 0,k,left,out,hf=>by
  cases left with
  | nil=>
   rw [List.append_nil]
   exact List.Perm.refl _
  | cons x l=>cases hf
 | f+1,k,left,out,hf=>by
  have hlt:next k % left.length < left.length:=Nat.mod_lt _ (by omega)
  have e:left[next k % left.length]?=some left[next k % left.length]:=List.getElem?_eq_getElem hlt
  unfold pickOrder.go
  rw [e]
  refine (Yo next f (k+1) _ _ (by rw [List.length_eraseIdx_of_lt hlt]; omega)).trans ?_
  rw [Array.toList_push,List.append_assoc]
  exact List.Perm.append_left _ (ye hlt)
theorem xK {α:Type} (next:Nat->Nat) (xs:Array α):(pickOrder next xs).toList.Perm xs.toList:=by
 unfold pickOrder
 exact Yo next _ _ _ _ (by simp)
noncomputable def wg (first:Value) (i:Nat) (a:Addr) (n ep:Nat):Obj:={ cls:=.type "set_iterator",data:=.fields #[first,rawInt i,.ref a,rawInt n,rawInt ep] }
theorem slot_si_next:Slot "set_iterator" "__next__" "set_iterator.__next__":=
 .of (owner := "set_iterator") (n := "__next__") (by rw [typeLookup_type,builtinLookup_eq_fast]; kernel_rfl) (by decide +kernel) (by decide +kernel) (by decide +kernel) (by first | exact .inl (by decide +kernel) | exact .inr (by decide +kernel)) (by rw [isSubtype_type]; kernel_rfl)
theorem yJ:Slot "set_iterator" "__iter__" "set_iterator.__iter__":=
 .of (owner := "set_iterator") (n := "__iter__") (by rw [typeLookup_type,builtinLookup_eq_fast]; kernel_rfl) (by decide +kernel) (by decide +kernel) (by decide +kernel) (by first | exact .inl (by decide +kernel) | exact .inr (by decide +kernel)) (by rw [isSubtype_type]; kernel_rfl)
theorem kM (a:Value):argsOk "set_iterator.__next__" ⟨[a],[]⟩:=by unfold argsOk; kernel_rfl
theorem Jf (a:Value):argsOk "set_iterator.__iter__" ⟨[a],[]⟩:=by unfold argsOk; kernel_rfl
theorem ki:entryFor table "set_iterator.__next__"=some Builtin.«set_iterator.__next__»:=entryFor_of_tree (by kernel_rfl)
theorem gH:entryFor table "set_iterator.__iter__"=some Builtin.«dict_keyiterator.__iter__»:=entryFor_alias (id' := "dict_keyiterator.__iter__") (by kernel_rfl) rfl (by decide +kernel) (by kernel_rfl)
theorem Jg:entryFor table "set.__iter__"=some Builtin.«frozenset.__iter__»:=entryFor_alias (id' := "frozenset.__iter__") (by kernel_rfl) rfl (by decide +kernel) (by kernel_rfl)
section
variable {prog:Program} {w:World} {A:Around} {E:Value->Shared->Prop} {s:Shared}
theorem kC {b:Bool} (hb:w.params.followText "set-order"=b):({ program:=(model prog w).prog,params:=(model prog w).w.params }:Setting).params.followText "set-order"=b:=hb
theorem Jh {it a:Addr} {sl i n ep nx:Nat} {es:Array (Int×Value)} {t:SetTable} {x:Value} {Q:Option Value->Shared->Prop} (hi:s.heap.get? it=some (wg (rawInt sl) i a n ep)) (ha:s.heap.get? a=some (jJ es ep t)) (hf:t.fits es.size=true) (hz:es.size=n)
  (hn:∀ (A1:Around) (Q1:Option (Value×Nat)->Shared->Prop) (E1:Value->Shared->Prop),Q1 (some (x,nx)) s->wpAny (model prog w) A1 (setNext a sl i ep) Q1 E1 s)
  (hQ:∀ h',h'.get? it=some (wg (rawInt nx) (i+1) a n ep)->Heap.SameBut it s.heap h'->Q (some x) { s with heap:=h' }):wpAny (model prog w) A (pyNext (.ref it)) Q E s:=by
 have hT:s.TypeIs (.ref it) "set_iterator":=⟨_,hi,rfl⟩
 unfold pyNext
 refine wpAny_bind (wpAny_attempt (wpAny_callSpecial?_slot (name:=Str.ofString "__next__") hT slot_si_next (wpAny_call_entry slot_si_next hT ki ?_ (kM _))))
 show wpAny _ _ (fieldsOf (.ref it) >>= _) _ _ s
 refine wpAny_bind (wpAny_fieldsOf hi rfl ?_)
 show wpAny _ _ (setEntries a >>= _) _ _ s
 refine wpAny_bind (wpAny_setEntries_of ha rfl hf ?_)
 rw [if_neg (by rw [hz]; simp)]
 show wpAny _ _ (setNext a sl i ep >>= _) _ _ s
 refine wpAny_bind (hn _ _ _ ?_)
 show wpAny _ _ (setField (.ref it) 0 (rawInt nx) >>= _) _ _ s
 refine wpAny_bind (wpAny_setField hi rfl (by simp) ?_)
 have h1:(s.heap.update it (Obj.mapFields (·.setIfInBounds 0 (rawInt nx)))).get? it=some (wg (rawInt nx) i a n ep):=Heap.get?_update_self _ hi rfl
 refine wpAny_bind (wpAny_setField h1 rfl (by simp) (wpAny_pure ⟨x,rfl,wpAny_pure (hQ _ ?_ ((Heap.SameBut.update ..).trans (Heap.SameBut.update ..)))⟩))
 exact Heap.get?_update_self _ h1 rfl
theorem Ji {it a:Addr} {sl i n ep:Nat} {es:Array (Int×Value)} {t:SetTable} {Q:Option Value->Shared->Prop} (hh:A.handled=none) (hi:s.heap.get? it=some (wg (rawInt sl) i a n ep)) (ha:s.heap.get? a=some (jJ es ep t)) (hf:t.fits es.size=true) (hz:es.size=n)
  (hn:∀ (A1:Around) (Q1:Option (Value×Nat)->Shared->Prop) (E1:Value->Shared->Prop),Q1 none s->wpAny (model prog w) A1 (setNext a sl i ep) Q1 E1 s)
  (hQ:∀ h',Heap.ExtBut it s.heap h'->Q none { s with heap:=h' }):wpAny (model prog w) A (pyNext (.ref it)) Q E s:=by
 have hT:s.TypeIs (.ref it) "set_iterator":=⟨_,hi,rfl⟩
 unfold pyNext
 refine wpAny_bind (wpAny_attempt (wpAny_callSpecial?_slot (name:=Str.ofString "__next__") hT slot_si_next (wpAny_call_entry slot_si_next hT ki ?_ (kM _))))
 show wpAny _ _ (fieldsOf (.ref it) >>= _) _ _ s
 refine wpAny_bind (wpAny_fieldsOf hi rfl ?_)
 show wpAny _ _ (setEntries a >>= _) _ _ s
 refine wpAny_bind (wpAny_setEntries_of ha rfl hf ?_)
 rw [if_neg (by rw [hz]; simp)]
 show wpAny _ _ (setNext a sl i ep >>= _) _ _ s
 refine wpAny_bind (hn _ _ _ ?_)
 show wpAny _ _ (setField (.ref it) 2 Value.none >>= _) _ _ s
 refine wpAny_bind (wpAny_setField hi rfl (by simp) ?_); show wpAny _ _ (newExc (.type "StopIteration") [] >>= _) _ _ _
 refine wpAny_bind ?_; simp only [newExc,newTuple]; refine wpAny_bind (wpAny_newObj_type ?_ (by size_fits))
 refine wpAny_bind (m:=firstArgMember _ _) (wpAny_of_eq (a:=Value.none) (by first | rfl | (simp only [firstArgMember]; rfl)) ?_); refine wpAny_newObj_type ?_ (by size_fits); simp only [raiseNew]
 refine wpAny_bind (wpAny_handled ?_); first | rw [show A.in1.handled=none from hh] | rw [hh]
 refine wpAny_bind (wpAny_pure (wpAny_throw ?_)); refine wpAny_bind (wpAny_isInstance (T := "StopIteration") (b:=true) ⟨_,Heap.get?_push_size _ rfl,rfl⟩ isSubtype_stop ?_)
 exact wpAny_pure (hQ _ (((Heap.SameBut.update ..).extBut.push _).push _))
theorem WK {it a p:Addr} {i n ep pl m:Nat} {es:Array (Int×Value)} {t:SetTable} {hx:Int} {x:Value} {ps:Array Value} {Q:Option Value->Shared->Prop} (hi:s.heap.get? it=some (wg (.ref p) i a n ep)) (ha:s.heap.get? a=some (jJ es ep t)) (hf:t.fits es.size=true) (hz:es.size=n)
  (hp:s.heap.get? p=some { cls:=.type "tuple",data:=.seq ps m }) (hpl:ps[i]?=some (rawInt pl)) (hx:es[pl]?=some (hx,x))
  (hQ:∀ h',h'.get? it=some (wg (.ref p) (i+1) a n ep)->Heap.SameBut it s.heap h'->Q (some x) { s with heap:=h' }):wpAny (model prog w) A (pyNext (.ref it)) Q E s:=by
 have hT:s.TypeIs (.ref it) "set_iterator":=⟨_,hi,rfl⟩
 unfold pyNext
 refine wpAny_bind (wpAny_attempt (wpAny_callSpecial?_slot (name:=Str.ofString "__next__") hT slot_si_next (wpAny_call_entry slot_si_next hT ki ?_ (kM _))))
 show wpAny _ _ (fieldsOf (.ref it) >>= _) _ _ s
 refine wpAny_bind (wpAny_fieldsOf hi rfl ?_)
 show wpAny _ _ (setEntries a >>= _) _ _ s
 refine wpAny_bind (wpAny_setEntries_of ha rfl hf ?_)
 rw [if_neg (by rw [hz]; simp)]
 show wpAny _ _ (seqItems? (.ref p) >>= _) _ _ s
 refine wpAny_bind (wpAny_seqItems hp rfl ?_)
 dsimp only
 rw [show ps[Int.toNat (i:Int)]?=some (rawInt pl) from hpl]
 show wpAny _ _ (setNextDrawn a pl ep >>= _) _ _ s
 refine wpAny_bind ?_
 unfold setNextDrawn
 refine wpAny_bind (wpAny_setState_of ha rfl hf ?_)
 dsimp only
 rw [if_neg (by simp),hx]
 refine wpAny_pure ?_
 show wpAny _ _ (setField (.ref it) 1 (rawInt (i+1)) >>= _) _ _ s
 refine wpAny_bind (wpAny_setField hi rfl (by simp) (wpAny_pure ⟨x,rfl,wpAny_pure (hQ _ ?_ (Heap.SameBut.update ..))⟩))
 exact Heap.get?_update_self _ hi rfl
theorem Yp {it a p:Addr} {i n ep m:Nat} {es:Array (Int×Value)} {t:SetTable} {ps:Array Value} {Q:Option Value->Shared->Prop} (hh:A.handled=none) (hi:s.heap.get? it=some (wg (.ref p) i a n ep)) (ha:s.heap.get? a=some (jJ es ep t)) (hf:t.fits es.size=true) (hz:es.size=n)
  (hp:s.heap.get? p=some { cls:=.type "tuple",data:=.seq ps m }) (hpl:ps[i]?=none)
  (hQ:∀ h',Heap.ExtBut it s.heap h'->Q none { s with heap:=h' }):wpAny (model prog w) A (pyNext (.ref it)) Q E s:=by
 have hT:s.TypeIs (.ref it) "set_iterator":=⟨_,hi,rfl⟩
 unfold pyNext
 refine wpAny_bind (wpAny_attempt (wpAny_callSpecial?_slot (name:=Str.ofString "__next__") hT slot_si_next (wpAny_call_entry slot_si_next hT ki ?_ (kM _))))
 show wpAny _ _ (fieldsOf (.ref it) >>= _) _ _ s
 refine wpAny_bind (wpAny_fieldsOf hi rfl ?_)
 show wpAny _ _ (setEntries a >>= _) _ _ s
 refine wpAny_bind (wpAny_setEntries_of ha rfl hf ?_)
 rw [if_neg (by rw [hz]; simp)]
 show wpAny _ _ (seqItems? (.ref p) >>= _) _ _ s
 refine wpAny_bind (wpAny_seqItems hp rfl ?_)
 dsimp only
 rw [show ps[Int.toNat (i:Int)]?=none from hpl]
 show wpAny _ _ (setField (.ref it) 0 (rawInt 0) >>= _) _ _ s
 refine wpAny_bind (wpAny_setField hi rfl (by simp) ?_)
 have h1:(s.heap.update it (Obj.mapFields (·.setIfInBounds 0 (rawInt 0)))).get? it=some (wg (rawInt 0) i a n ep):=Heap.get?_update_self _ hi rfl
 refine wpAny_bind (wpAny_setField h1 rfl (by simp) ?_); show wpAny _ _ (newExc (.type "StopIteration") [] >>= _) _ _ _
 refine wpAny_bind ?_; simp only [newExc,newTuple]; refine wpAny_bind (wpAny_newObj_type ?_ (by size_fits))
 refine wpAny_bind (m:=firstArgMember _ _) (wpAny_of_eq (a:=Value.none) (by first | rfl | (simp only [firstArgMember]; rfl)) ?_); refine wpAny_newObj_type ?_ (by size_fits); simp only [raiseNew]
 refine wpAny_bind (wpAny_handled ?_); first | rw [show A.in1.handled=none from hh] | rw [hh]
 refine wpAny_bind (wpAny_pure (wpAny_throw ?_)); refine wpAny_bind (wpAny_isInstance (T := "StopIteration") (b:=true) ⟨_,Heap.get?_push_size _ rfl,rfl⟩ isSubtype_stop ?_)
 exact wpAny_pure (hQ _ (((((Heap.SameBut.update ..).trans (Heap.SameBut.update ..))).extBut.push _).push _))
theorem xL {it:Addr} {o:Obj} {Q:Value->Shared->Prop} (hi:s.heap.get? it=some o) (hc:o.cls=.type "set_iterator") (h:Q (.ref it) s):wpAny (model prog w) A (pyIter (.ref it)) Q E s:=by
 have hT:s.TypeIs (.ref it) "set_iterator":=⟨_,hi,hc⟩
 refine wpAny_pyIter_slot hT yJ (wpAny_call_entry yJ hT gH ?_ (Jf _)); show wpAny _ _ (ret (.ref it)) _ _ s
 exact wpAny_pure ⟨_,rfl, "set_iterator",_,hT,slot_si_next.lookup,h⟩
theorem Yq {it a:Addr} {ep:Nat} {es:Array (Int×Value)} {t:SetTable} (hh:A.handled=none) (hb:w.params.followText "set-order"=true) (hf:t.fits es.size=true) (hne:a≠it) :
  Walks prog w A it [it,a] [it] es.size (fun i v=>((pickOrder (w.params.setOrder a ep) es).toList.map (·.2))[i]?=some v) (fun i h=>h.get? it=some (wg (rawInt 0) i a es.size ep)/\h.get? a=some (jJ es ep t)) where
 sub:=fun b hb=>by simp at hb; simp [hb]
 frame:=fun _ _ _ st hk=>⟨hk it (by simp) _ st.1,hk a (by simp) _ st.2⟩
 item:=fun i s Q E hi st hQ=>by
  have hlen:(pickOrder (w.params.setOrder a ep) es).size=es.size:=by
   have:=(xK (w.params.setOrder a ep) es).length_eq
   simpa using this
  have hlt:i < (pickOrder (w.params.setOrder a ep) es).size:=by omega
  obtain ⟨e,he⟩:∃ e,(pickOrder (w.params.setOrder a ep) es)[i]?=some e:=⟨_,Array.getElem?_eq_getElem hlt⟩
  refine Jh (x:=e.2) (nx:=0) st.1 st.2 hf rfl (fun A1 Q1 E1 q=>?_) fun h' hi' sb=>hQ e.2 h' s.toks ?_ ⟨hi',?_⟩ fun b o nb eo=>?_
  ·unfold setNext
   refine wpAny_bind (wpAny_setState_of st.2 rfl hf ?_)
   dsimp only
   refine wpAny_bind (m:=setsByText) (wpAny_bind (wpAny_askSetting (wpAny_pure ?_)))
   rw [kC hb,if_pos rfl,if_neg (by simp)]
   refine wpAny_bind ?_
   unfold setWalk
   refine wpAny_bind (wpAny_setState_of st.2 rfl hf ?_)
   dsimp only
   refine wpAny_bind (m:=setsByText) (wpAny_bind (wpAny_askSetting (wpAny_pure ?_)))
   rw [kC hb,if_pos rfl]
   refine wpAny_bind (wpAny_askSetting (wpAny_pure ?_))
   refine wpAny_pure ?_
   rw [show (pickOrder ((⟨(model prog w).prog,(model prog w).w.params⟩:Setting).params.setOrder a ep) es)[i]?=some e from he]
   exact q
  ·rw [List.getElem?_map,Array.getElem?_toList,he]
   rfl
  ·rw [sb.2 a hne]
   exact st.2
  ·rw [sb.2 b (fun z=>nb (by simp [z]))]
   exact eo
 done:=fun s Q E st hQ=>by
  have hlen:(pickOrder (w.params.setOrder a ep) es).size=es.size:=by
   have:=(xK (w.params.setOrder a ep) es).length_eq
   simpa using this
  refine Ji hh st.1 st.2 hf rfl (fun A1 Q1 E1 q=>?_) fun h' eb=>hQ h' s.toks fun b o nb eo=>eb b o (fun z=>nb (by simp [z])) eo
  unfold setNext
  refine wpAny_bind (wpAny_setState_of st.2 rfl hf ?_)
  dsimp only
  refine wpAny_bind (m:=setsByText) (wpAny_bind (wpAny_askSetting (wpAny_pure ?_)))
  rw [kC hb,if_pos rfl,if_neg (by simp)]
  refine wpAny_bind ?_
  unfold setWalk
  refine wpAny_bind (wpAny_setState_of st.2 rfl hf ?_)
  dsimp only
  refine wpAny_bind (m:=setsByText) (wpAny_bind (wpAny_askSetting (wpAny_pure ?_)))
  rw [kC hb,if_pos rfl]
  refine wpAny_bind (wpAny_askSetting (wpAny_pure ?_))
  refine wpAny_pure ?_
  rw [show (pickOrder ((⟨(model prog w).prog,(model prog w).w.params⟩:Setting).params.setOrder a ep) es)[es.size]?=none from Array.getElem?_eq_none (Nat.le_of_eq hlen)]
  exact q
 self:=fun i s Q E st hQ=>xL st.1 rfl hQ
noncomputable def ug (t:SetTable) (i:Nat):Nat:=if i=0 then 0 else t.place.getD 0 0+1
theorem Jj (j k:Nat):SetTable.below #[j] k=if j < k then 1 else 0:=by
 unfold SetTable.below
 show SetTable.below.go #[j] k 1 0 1=_
 unfold SetTable.below.go
 rw [if_pos (by omega)]
 show (if (#[j]:Array Nat).getD 0 k < k then SetTable.below.go #[j] k 0 1 1 else SetTable.below.go #[j] k 0 0 0)=_
 show (if j < k then SetTable.below.go #[j] k 0 1 1 else SetTable.below.go #[j] k 0 0 0)=_
 split <;> rfl
theorem VL {a:Addr} {ep i:Nat} {es:Array (Int×Value)} {t:SetTable} {Q:Option (Value×Nat)->Shared->Prop} (hb:w.params.followText "set-order"=false) (hf:t.fits es.size=true) (hl:t.led=true) (hz:es.size<=1) (ha:s.heap.get? a=some (jJ es ep t)) (hi:i<=es.size)
  (q:Q (match es[i]? with | some e=>some (e.2,ug t (i+1)) | none=>none) s):wpAny (model prog w) A (setNext a (ug t i) i ep) Q E s:=by
 have hps:t.place.size=es.size:=by
  have:=hf
  simp only [SetTable.fits,Bool.and_eq_true,beq_iff_eq] at this
  exact this.1
 unfold setNext
 refine wpAny_bind (wpAny_setState_of ha rfl hf ?_)
 dsimp only
 refine wpAny_bind (m:=setsByText) (wpAny_bind (wpAny_askSetting (wpAny_pure ?_)))
 rw [kC hb,if_neg (by simp)]
 show wpAny _ _ (if (!t.plain&&decide (es.size > 1))=true then _ else _) _ _ _
 rw [if_neg (by simp; intro _; omega)]
 refine wpAny_bind ?_
 show wpAny _ _ (if (!t.led&&!es.isEmpty)=true then _ else _) _ _ _
 rw [hl,if_neg (by simp)]
 refine wpAny_pure (wpAny_pure ?_)
 have e:(match es[SetTable.below t.place (ug t i)]?,t.place[SetTable.below t.place (ug t i)]? with | some (_,x),some j=>some (x,j+1) | _,_=>none)=(match es[i]? with | some e=>some (e.2,ug t (i+1)) | none=>none:Option (Value×Nat)):=by
  obtain ⟨l⟩:=es
  obtain ⟨mask,⟨pl⟩,du,fi,le,mo,pn⟩:=t
  cases l with
  | nil=>simp
  | cons e0 l=>
   cases l with
   | cons _ _=>exact absurd hz (by simp)
   | nil=>
    cases pl with
    | nil=>exact absurd hps (by simp)
    | cons j pl=>
     cases pl with
     | cons _ _=>exact absurd hps (by simp)
     | nil=>
      have hi1:i=0\/i=1:=by simp at hi; omega
      rcases hi1 with rfl | rfl
      ·show (match (#[e0]:Array (Int×Value))[SetTable.below #[j] 0]?,(#[j]:Array Nat)[SetTable.below #[j] 0]? with | some (_,x),some j=>some (x,j+1) | _,_=>none)=some (e0.2,j+1)
       rw [Jj,if_neg (by omega)]
       rfl
      ·show (match (#[e0]:Array (Int×Value))[SetTable.below #[j] (j+1)]?,(#[j]:Array Nat)[SetTable.below #[j] (j+1)]? with | some (_,x),some j=>some (x,j+1) | _,_=>none)=none
       rw [Jj,if_pos (by omega)]
       rfl
 exact Eq.mp (congrArg (fun z=>Q z s) e.symm) q
theorem ZE {it a:Addr} {ep:Nat} {es:Array (Int×Value)} {t:SetTable} (hh:A.handled=none) (hb:w.params.followText "set-order"=false) (hf:t.fits es.size=true) (hl:t.led=true) (hz:es.size<=1) (hne:a≠it) :
  Walks prog w A it [it,a] [it] es.size (fun i v=>(es.toList.map (·.2))[i]?=some v) (fun i h=>h.get? it=some (wg (rawInt (ug t i)) i a es.size ep)/\h.get? a=some (jJ es ep t)) where
 sub:=fun b hb=>by simp at hb; simp [hb]
 frame:=fun _ _ _ st hk=>⟨hk it (by simp) _ st.1,hk a (by simp) _ st.2⟩
 item:=fun i s Q E hi st hQ=>by
  have he:es[i]?=some es[i]:=Array.getElem?_eq_getElem hi
  refine Jh (x:=es[i].2) (nx:=ug t (i+1)) st.1 st.2 hf rfl (fun A1 Q1 E1 q=>VL hb hf hl hz st.2 (Nat.le_of_lt hi) (by rw [he]; exact q)) fun h' hi' sb=>hQ es[i].2 h' s.toks ?_ ⟨hi',?_⟩ fun b o nb eo=>?_
  ·rw [List.getElem?_map,Array.getElem?_toList,he]
   rfl
  ·rw [sb.2 a hne]
   exact st.2
  ·rw [sb.2 b (fun z=>nb (by simp [z]))]
   exact eo
 done:=fun s Q E st hQ=>Ji hh st.1 st.2 hf rfl (fun A1 Q1 E1 q=>VL hb hf hl hz st.2 (Nat.le_refl _) (by rw [Array.getElem?_eq_none (Nat.le_refl _)]; exact q)) fun h' eb=>hQ h' s.toks fun b o nb eo=>eb b o (fun z=>nb (by simp [z])) eo
 self:=fun i s Q E st hQ=>xL st.1 rfl hQ
noncomputable def qcX (es:Array (Int×Value)) (ps:List Nat):List Value:=ps.map fun k=>(es[k]?.map (·.2)).getD .none
theorem Yr {es:Array (Int×Value)} {ps:List Nat} (h:ps.Perm (List.range es.size)):(qcX es ps).Perm (es.toList.map (·.2)):=by
 have e:qcX es (List.range es.size)=es.toList.map (·.2):=by
  apply List.ext_getElem?
  intro i
  unfold qcX
  rw [List.getElem?_map,List.getElem?_map,show es.toList[i]?=es[i]? from Array.getElem?_toList]
  by_cases hi:i < es.size
  ·rw [List.getElem?_range hi,Array.getElem?_eq_getElem hi]
   simp [hi]
  ·rw [List.getElem?_eq_none (by rw [List.length_range]; omega),Array.getElem?_eq_none (by omega)]
   rfl
 rw [<-e]
 exact h.map _
theorem WL {it a p:Addr} {ep m:Nat} {es:Array (Int×Value)} {t:SetTable} {ps:List Nat} (hh:A.handled=none) (hf:t.fits es.size=true) (hp:ps.Perm (List.range es.size)) (hne:a≠it) (hpe:p≠it) :
  Walks prog w A it [it,a,p] [it] es.size (fun i v=>(qcX es ps)[i]?=some v) (fun i h=>h.get? it=some (wg (.ref p) i a es.size ep)/\h.get? a=some (jJ es ep t)/\h.get? p=some { cls:=.type "tuple",data:=.seq (ps.map fun (i:Nat)=>rawInt i).toArray m }) where
 sub:=fun b hb=>by simp at hb; simp [hb]
 frame:=fun _ _ _ st hk=>⟨hk it (by simp) _ st.1,hk a (by simp) _ st.2.1,hk p (by simp) _ st.2.2⟩
 item:=fun i s Q E hi st hQ=>by
  have hlen:ps.length=es.size:=by rw [hp.length_eq,List.length_range]
  have hil:i < ps.length:=by omega
  have hk:ps[i] < es.size:=List.mem_range.mp (hp.mem_iff.mp (List.getElem_mem hil))
  have he:es[ps[i]]?=some es[ps[i]]:=Array.getElem?_eq_getElem hk
  refine WK (x:=es[ps[i]].2) (hx:=es[ps[i]].1) (pl:=ps[i]) st.1 st.2.1 hf rfl st.2.2 ?_ he fun h' hi' sb=>hQ es[ps[i]].2 h' s.toks ?_ ⟨hi',?_,?_⟩ fun b o nb eo=>?_
  ·rw [List.getElem?_toArray,List.getElem?_map,List.getElem?_eq_getElem hil]
   rfl
  ·unfold qcX
   rw [List.getElem?_map,List.getElem?_eq_getElem hil]
   simp [he]
  ·rw [sb.2 a hne]
   exact st.2.1
  ·rw [sb.2 p hpe]
   exact st.2.2
  ·rw [sb.2 b (fun z=>nb (by simp [z]))]
   exact eo
 done:=fun s Q E st hQ=>by
  have hlen:ps.length=es.size:=by rw [hp.length_eq,List.length_range]
  refine Yp hh st.1 st.2.1 hf rfl st.2.2 ?_ fun h' eb=>hQ h' s.toks fun b o nb eo=>eb b o (fun z=>nb (by simp [z])) eo
  rw [List.getElem?_toArray,List.getElem?_eq_none (by simp; omega)]
 self:=fun i s Q E st hQ=>xL st.1 rfl hQ
theorem ZF {a:Addr} {ep:Nat} {es:Array (Int×Value)} {t:SetTable} {ks:List Str} {A1:Around} {Q:Value->Shared->Prop} (hh:A1.handled=none) (ha:s.heap.get? a=some (jJ es ep t)) (d:SetD prog w es t ks)
  (hQ:∀ (it:Addr) (h':Heap) (dr:Drawn) (ord:List Value) (fp:List Addr) (St:Nat->Heap->Prop),(∀ b o,s.heap.get? b=some o->h'.get? b=some o)->ord.Perm (es.toList.map (·.2))->Walks prog w A1 it fp [it] es.size (fun i v=>ord[i]?=some v) St->St 0 h' ->
   (∀ b∈fp,b=a\/s.heap.objs.size<=b)->s.heap.objs.size<=it->Q (.ref it) { s with heap:=h',drawn:=dr }):wpAny (model prog w) A (pyIter (.ref a)) Q E s:=by
 have hT:s.TypeIs (.ref a) "set":=⟨_,ha,rfl⟩
 have hlt:a < s.heap.objs.size:=Heap.lt_size ha
 refine wpAny_pyIter_slot hT PySem.F.slot_set_iter (wpAny_call_entry PySem.F.slot_set_iter hT Jg ?_ (PySem.F.args_set_iter_1 _))
 show wpAny _ _ (Builtin.Frozenset.sizeOf a >>= _) _ _ s
 refine wpAny_bind (m:=Builtin.Frozenset.sizeOf a) (wpAny_bind (wpAny_setEntries_of ha rfl d.fits (wpAny_pure ?_)))
 refine wpAny_bind (m:=setDrawn a) ?_
 unfold setDrawn
 refine wpAny_bind (wpAny_setState_of ha rfl d.fits ?_)
 dsimp only
 refine wpAny_bind (m:=setsByText) (wpAny_bind (wpAny_askSetting (wpAny_pure ?_)))
 refine wpAny_pure ?_
 cases hb:w.params.followText "set-order" with
 | true=>
  rw [kC hb,if_neg (by simp)]
  refine wpAny_bind (wpAny_pure ?_)
  refine wpAny_bind (m:=setEpoch a) (wpAny_setEpoch_of ha rfl d.fits ?_)
  refine wpAny_bind (wpAny_newObj_type (wpAny_pure ⟨_,rfl, "set_iterator",_,⟨_,Heap.get?_push_size _ rfl,rfl⟩,slot_si_next.lookup,?_⟩))
  refine hQ _ _ s.drawn _ _ _ (fun b o e=>Heap.get?_push_of_some _ e) ((xK (w.params.setOrder a ep) es).map _) (Yq hh hb d.fits (Nat.ne_of_lt hlt)) ⟨Heap.get?_push_size _ rfl,Heap.get?_push_of_some _ ha⟩ ?_ (Nat.le_refl _)
  intro b hb
  rcases List.mem_cons.mp hb with z | z
  ·exact .inr (z ▸ Nat.le_refl _)
  ·exact .inl (List.mem_singleton.mp z)
 | false=>
  have hled:t.led=true:=by rw [d.led,hb]; rfl
  rw [kC hb]
  show wpAny _ _ (if (!false&&(!t.plain&&decide (es.size > 1)))=true then _ else _) _ _ _
  by_cases hn:es.size<=1
  ·rw [if_neg (by simp; intro _; omega)]
   refine wpAny_bind (wpAny_pure ?_)
   refine wpAny_bind (m:=setEpoch a) (wpAny_setEpoch_of ha rfl d.fits ?_)
   refine wpAny_bind (wpAny_newObj_type (wpAny_pure ⟨_,rfl, "set_iterator",_,⟨_,Heap.get?_push_size _ rfl,rfl⟩,slot_si_next.lookup,?_⟩))
   refine hQ _ _ s.drawn _ _ _ (fun b o e=>Heap.get?_push_of_some _ e) (List.Perm.refl _) (ZE hh hb d.fits hled hn (Nat.ne_of_lt hlt)) ⟨Heap.get?_push_size _ rfl,Heap.get?_push_of_some _ ha⟩ ?_ (Nat.le_refl _)
   intro b hb
   rcases List.mem_cons.mp hb with z | z
   ·exact .inr (z ▸ Nat.le_refl _)
   ·exact .inl (List.mem_singleton.mp z)
  ·have hpl:t.plain=false:=d.plain fun z=>by
    have h0:=d.size
    rw [z,List.length_nil] at h0
    omega
   rw [if_pos (by rw [hpl]; simp; omega)]
   refine wpAny_bind (Yn es.size (List.range es.size) s (by simp) fun ps dr hp=>?_)
   have hpl2:ps.length=es.size:=by rw [hp.length_eq,List.length_range]
   have hsz:(ps.map fun (i:Nat)=>rawInt i).length<=sizeLine:=by rw [List.length_map,hpl2]; exact fits_of_scanBound d.bd
   refine wpAny_bind (wpAny_newTuple ?_ hsz)
   refine wpAny_bind (m:=setEpoch a) (wpAny_setEpoch_of (Heap.get?_push_of_some _ ha) rfl d.fits ?_)
   refine wpAny_bind (wpAny_newObj_type (wpAny_pure ⟨_,rfl, "set_iterator",_,⟨_,Heap.get?_push_size _ rfl,rfl⟩,slot_si_next.lookup,?_⟩))
   have hp1:s.heap.objs.size < (s.heap.push ({ cls:=.type "tuple",data:=.seq (ps.map fun (i:Nat)=>rawInt i).toArray }:Obj)).objs.size:=by rw [Heap.size_push]; exact Nat.lt_succ_self _
   refine hQ _ _ dr _ _ _ (fun b o e=>Heap.get?_push_of_some _ (Heap.get?_push_of_some _ e)) (Yr hp) (WL (p:=s.heap.objs.size) hh d.fits hp (Nat.ne_of_lt (Nat.lt_trans hlt hp1)) (Nat.ne_of_lt hp1)) ⟨Heap.get?_push_size _ rfl,Heap.get?_push_of_some _ (Heap.get?_push_of_some _ ha),Heap.get?_push_of_some _ (Heap.get?_push_size _ rfl)⟩ ?_ (Nat.le_of_lt hp1)
   intro b hb
   rcases List.mem_cons.mp hb with z | z
   ·exact .inr (z ▸ Nat.le_of_lt hp1)
   ·rcases List.mem_cons.mp z with z | z
    ·exact .inl z
    ·exact .inr (Nat.le_of_eq (List.mem_singleton.mp z).symm)
end
section
variable {prog:Program} {w:World} {A:Around} {E:Value->Shared->Prop} {s:Shared}
theorem ZG {ord:List Value} {acc:Array Value} {n:Nat} (hl:ord.length=n) (h:ItemsOf (fun i v=>ord[i]?=some v) acc n):acc.toList=ord:=by
 apply List.ext_getElem?
 intro i
 rw [show acc.toList[i]?=acc[i]? from Array.getElem?_toList]
 by_cases hi:i < acc.size
 ·rw [Array.getElem?_eq_getElem hi]
  exact (h.2 i _ (Array.getElem?_eq_getElem hi)).symm
 ·rw [Array.getElem?_eq_none (by omega),List.getElem?_eq_none (by have:=h.1; omega)]
theorem Ki {a:Addr} {ep:Nat} {es:Array (Int×Value)} {t:SetTable} {ks:List Str} {Q:List Value->Shared->Prop} (hh:A.handled=none) (ha:s.heap.get? a=some (jJ es ep t)) (d:SetD prog w es t ks)
  (hQ:∀ h' dr tk ord,(∀ b o,s.heap.get? b=some o->h'.get? b=some o)->ord.Perm (es.toList.map (·.2))->Q ord { s with heap:=h',drawn:=dr,toks:=tk }):wpAny (model prog w) A (collect (.ref a)) Q E s:=by
 have hlt:a < s.heap.objs.size:=Heap.lt_size ha
 unfold collect
 refine wpAny_bind (wpAny_runValue (codeAny_builtin PySem.F.entry_proto_collect ?_)); rw [Around.under_plainId PySem.F.plain_proto_collect _]
 show wpAny _ A.in1 (newList [] >>= fun l=>again (.builtin "list.__iadd__" ⟨[l,.ref a],[]⟩)) _ _ s; refine wpAny_bind (wpAny_newObj_type ?_)
 refine wpAny_pure ⟨plainId_quiet PySem.F.plain_list_iadd _,codeAny_builtin PySem.F.entry_list_iadd ?_⟩; rw [Around.under_plainId PySem.F.plain_list_iadd _]
 have ha1:(s.heap.push { cls:=.type "list",data:=.seq ([]:List Value).toArray }).get? a=some (jJ es ep t):=Heap.get?_push_of_some _ ha
 have hT:Shared.TypeIs { s with heap:=s.heap.push { cls:=.type "list",data:=.seq ([]:List Value).toArray } } (.ref a) "set":=⟨_,ha1,rfl⟩
 show wpAny _ A.in1 (Builtin.List.listExtendWith (.ref s.heap.objs.size) (.ref a) (.ref s.heap.objs.size)) _ _ _; unfold Builtin.List.listExtendWith
 refine wpAny_bind (wpAny_typeOf hT ?_)
 have h1:Builtin.List.listSameRef (.ref s.heap.objs.size) (.ref a)=false:=by simp [Builtin.List.listSameRef,Nat.ne_of_gt hlt]
 rw [if_neg (by rw [h1]; decide)]
 refine wpAny_bind (ZF (A1:=A.in1) hh ha1 d fun it h2 dr ord fp St k2 hp W hst hfp hit=>?_)
 have hS1:h2.get? s.heap.objs.size=some { cls:=.type "list",data:=.seq ([]:List Value).toArray }:=k2 _ _ (Heap.get?_push_size _ rfl)
 have ha2:h2.get? a=some (jJ es ep t):=k2 _ _ ha1
 refine wpAny_bind (wpAny_holding ?_)
 unfold Builtin.List.listLengthHint
 have hT2:Shared.TypeIs { s with heap:=h2,drawn:=dr } (.ref a) "set":=⟨_,ha2,rfl⟩
 refine wpAny_bind (wpAny_specialOf hT2 PySem.F.slot_set_len.lookup ?_)
 (generalize hid:("set.__len__":String)=id0; (fail_if_success (clear hid id0)); wp_delta; rw [show splitId id0=some ("set", "__len__") from by subst hid; decide +kernel]; subst hid)
 refine wpAny_bind (wpAny_isInstance (b:=true) hT2 (by rw [isSubtype_type]; kernel_rfl) ?_)
 refine wpAny_bind (m:=typeOf (.ref a)) (wpAny_typeOf hT2 ?_)
 refine wpAny_pure ?_
 show wpAny _ A.in1 (rule "list.extend.makes-room" >>= fun _=>Builtin.List.listTouch (.ref s.heap.objs.size) >>= fun _=>again (.builtin "list.extend.loop" ⟨[.ref s.heap.objs.size,.ref it,.ref s.heap.objs.size],[]⟩)) _ _ _
 refine wpAny_bind (wpAny_rule (wpAny_bind ?_)); show wpAny _ A.in1 (updateSeq s.heap.objs.size (·.push .none) >>= fun _=>updateSeq s.heap.objs.size (·.pop)) _ _ _
 refine wpAny_bind (wpAny_updateSeq hS1 rfl ?_); have hS₂:=Heap.get?_update_self (Obj.mapSeq (·.push Value.none)) hS1 rfl
 refine wpAny_updateSeq hS₂ rfl ?_; have hS₃:=Heap.get?_update_self (Obj.mapSeq (·.pop)) hS₂ rfl
 have hzs:(s.heap.push ({ cls:=.type "list",data:=.seq ([]:List Value).toArray }:Obj)).objs.size=s.heap.objs.size+1:=Heap.size_push ..
 have oth:∀ b o,b≠s.heap.objs.size->h2.get? b=some o->((h2.update s.heap.objs.size (Obj.mapSeq (·.push Value.none))).update s.heap.objs.size (Obj.mapSeq (·.pop))).get? b=some o:=fun b o hb e=>(Heap.get?_update_other _ _ (Ne.symm hb)).trans ((Heap.get?_update_other _ _ (Ne.symm hb)).trans e)
 have nf:s.heap.objs.size∉fp:=fun z=>by
  rcases hfp _ z with q | q
  ·exact Nat.ne_of_gt hlt q
  ·exact Nat.not_succ_le_self _ (hzs ▸ q)
 have hlen:ord.length=es.size:=by
  rw [hp.length_eq]
  simp
 refine wpAny_pure ⟨plainId_quiet PySem.F.plain_extend_loop _,codeAny_extend_loopS W.toS (fits_of_scanBound d.bd) _ nf _ es.size 0 _ _ _ rfl (Nat.zero_le _) (W.frame 0 h2 _ hst fun b hb o e=>oth b o (fun z=>nf (z ▸ hb)) e) hS₃ (ItemsOf.nil _) fun s' acc' c' hm hS' hacc=>?_⟩
 show wpAny _ A (load s.heap.objs.size >>= _) _ _ s'
 refine wpAny_bind (wpAny_load hS' (wpAny_pure ?_))
 rw [ZG hlen hacc]
 obtain ⟨h',g',d',tk',os'⟩:=s'
 have eg:g'=s.gens:=hm.gens
 have ed:d'=dr:=hm.drawn
 have eo:os'=s.os:=hm.os
 subst eg ed eo
 refine hQ h' d' tk' ord (fun b o e=>?_) hp
 have hb:=Heap.lt_size e
 refine hm.heap b o (fun z=>?_) (oth b o (Nat.ne_of_lt hb) (k2 b o (Heap.get?_push_of_some _ e)))
 rcases List.mem_cons.mp z with z | z
 ·exact Nat.ne_of_lt hb z
 ·have h3:s.heap.objs.size+1<=it:=hzs ▸ hit
  rw [<-List.mem_singleton.mp z] at h3
  exact Nat.lt_irrefl _ (Nat.lt_trans hb h3)
theorem WM {a:Addr} {ks:List Str} {Q:Value->Shared->Prop} (hh:A.handled=none) (hS:SetS prog w s.heap a ks) (h64:ks.length < 64)
  (hQ:∀ (h1 h':Heap) dr tk vs e ss,(∀ b o,s.heap.get? b=some o->h1.get? b=some o)->(∀ b o,h1.get? b=some o->h'.get? b=some o)->h'.get? h1.objs.size=some (seqObj "list" vs e)->StrsAre vs.toList ss->ss.Perm ks->sortedS ss=true->Q (.ref h1.objs.size) { s with heap:=h',drawn:=dr,toks:=tk }) :
  wpAny (model prog w) A (call (.builtin "sorted") [.ref a]) Q E s:=by
 obtain ⟨es,ep,t,ha,d⟩:=hS
 refine Calls.call_function_entry kind_sorted plain_sorted entry_sorted (args_sorted1 _) ?_; unfold Builtin.«sorted»
 refine wpAny_bind (m:=checkCount "sorted" 1 1 _) (wpAny_pure ?_)
 refine wpAny_bind (Ki (by exact hh) ha d fun h1 dr tk ord k1 hp=>?_)
 have hst:StrsAre ord (ord.map strOf):=strsAre_map ord fun v hv=>by
  obtain ⟨e,he,rfl⟩:=List.mem_map.mp (hp.mem_iff.mp hv)
  exact Yk d.el he
 have hpk:(ord.map strOf).Perm ks:=(hp.map strOf).trans (by rw [List.map_map]; exact d.perm)
 have hlen:ord.length=ks.length:=by
  have:=hpk.length_eq
  rwa [List.length_map] at this
 refine wpAny_bind (wpAny_newList ?_ (by rw [hlen,sizeLine_eq]; omega))
 have hoL:(h1.push (seqObj "list" ord.toArray 0)).get? h1.objs.size=some (seqObj "list" ord.toArray 0):=Heap.get?_push_size _ rfl
 refine wpAny_bind (wpAny_holding (wpAny_call_entry slot_list_sort (s:={ s with heap:=h1.push (seqObj "list" ord.toArray 0),drawn:=dr,toks:=tk }) ⟨_,hoL,rfl⟩ entry_list_sort (list_sort_treeK strKind_oneLt hoL hst.keysOf (fun v₁ v₂ rest e=>keyKind_strs (by rw [<-e]; exact hst)) (by rw [hlen]; exact h64) fun st' a1 a2=>⟨_,rfl,?_⟩) (args_list_sort _)))
 obtain ⟨ss',b1,b2,b3⟩:=sorted_out_str hst a1 a2
 obtain ⟨e,he⟩:=sortedHeap_at (out:=(arrOf st').map (·.2)) hoL
 refine wpAny_pure ⟨_,rfl,hQ h1 _ dr tk _ e ss' k1 (fun b o eb=>?_) he b1 (b2.trans hpk) b3⟩
 have hb:=Heap.lt_size eb
 rw [sortedHeap_old (Nat.ne_of_lt hb) (by rw [Heap.size_push]; exact Nat.lt_succ_of_lt hb)]
 exact Heap.get?_push_of_some _ eb
end
section
variable {prog:Program} {w:World} {A:Around} {E:Value->Shared->Prop} {s:Shared}
variable {z TI TO i1 i2:Addr} {fp1 fp2:List Addr} {n1 n2 i:Nat} {P1 P2:Nat->Value->Prop} {S1 S2:Nat->Heap->Prop} {a b:Value}
end
inductive SK where
 | l | t
noncomputable def SK.itc:SK->String
 | .l => "list_iterator"
 | .t => "tuple_iterator"
def ItK (h:Heap) (it a:Addr):SK->Nat->Prop
 | .l,i=>h.IsListIter it a i
 | .t,i=>h.IsTupleIter it a i
theorem ItK.obj {h:Heap} {it a:Addr} {i:Nat}:∀ {k:SK},ItK h it a k i->∃ o,h.get? it=some o/\o.cls=.type k.itc/\o.data=.fields #[.ref a,.int i 0]
 | .l,⟨o,e,c,d⟩=>⟨o,e,c,d⟩
 | .t,⟨o,e,c,d⟩=>⟨o,e,c,d⟩
section
variable {X:Cx} {pins:List (Addr×Obj)} {σ:St} {H:Hp} {s:Shared} {h':Heap}
theorem Ys {t':Nat} {ch:List Addr} (I:Inv X pins σ H s) (k:∀ b o,b∉ch->s.heap.get? b=some o->h'.get? b=some o) (hf:∀ b∈ch,JJ X pins H b):Inv X pins σ H { s with heap:=h',toks:=t' }:=by
 have nit:∀ b u,H b=some u->b∉ch:=fun b u e z=>by
  rw [(hf b z).1] at e
  cases e
 refine I.step (g':=s.gens) (d':=s.drawn) (ch:=ch) (fun b hb=>?_) (fun b o _ _ hc e _=>k b o hc e) (fun b o _ _ hc e _=>⟨o.slots,k b o hc e⟩) (fun _ _ _ _ n=>n) (fun b o hc e=>⟨o,k b o hc e⟩) (fun _ _ e=>e) (fun _ _ _ e=>e) (fun b ps e=>⟨#[],by rw [e]; simp⟩) (fun m hm=>?_) (fun b u e=>?_) I.bare
 ·obtain ⟨f0,f1,f2,f3,f4,f5⟩:=hf b hb
  exact ⟨f3,f1,f4,f5⟩
 ·obtain ⟨o,es,ep,ho,r⟩:=hm
  exact ⟨o,es,ep,k _ o (fun z=>(hf _ z).2.1 rfl) ho,r⟩
 ·refine (I.hok b u e).stay (fun c v hc q=>k c v ?_ q) (fun _ q=>q) fun _ _ q=>q
  rcases hc with z | z
  ·rw [z]
   exact nit b u e
  ·exact nit c _ z
theorem qfR {t':Nat} {d':Drawn} (I:Inv X pins σ H s) (k:∀ b u,s.heap.get? b=some u->h'.get? b=some u):Inv X pins σ H { s with heap:=h',drawn:=d',toks:=t' }:=by
 refine I.step (g':=s.gens) (d':=d') (ch:=[]) (fun _ z=>nomatch z) (fun b o _ _ _ e _=>k b o e) (fun b o _ _ _ e _=>⟨o.slots,k b o e⟩) (fun _ _ _ _ n=>n) (fun b o _ e=>⟨o,k b o e⟩) (fun _ _ e=>e) (fun _ _ _ e=>e) (fun b ps e=>⟨#[],by rw [e]; simp⟩) (fun m hm=>?_) (I.hok.kept k) I.bare
 obtain ⟨o,es,ep,ho,r⟩:=hm
 exact ⟨o,es,ep,k _ o ho,r⟩
end
theorem Yt {xs:List V} {us:List Value} (r:Vals xs us) {i:Nat} {u:Value} (h:us[i]?=some u):∃ x,xs[i]?=some x/\RelV x u:=by
 have hi:i < us.length:=(List.getElem?_eq_some_iff.mp h).1
 have hx:i < xs.length:=by rw [r.length]; exact hi
 obtain ⟨u',h1,h2⟩:=r.get (List.getElem?_eq_getElem hx)
 rw [h] at h1
 cases h1
 exact ⟨xs[i],List.getElem?_eq_getElem hx,h2⟩
def leS (x y:Str):Prop:=¬y.cps.toList < x.cps.toList
noncomputable def qbU (x:Str):List Str->List Str
 | []=>[x]
 | y::l=>if ud y x=true then y::qbU x l else x::y::l
noncomputable def kb:List Str->List Str
 | []=>[]
 | x::l=>qbU x (kb l)
theorem Jk {x y z:Str} (a:leS x y) (b:leS y z):leS x z:=List.le_trans (α:=Nat) a b
theorem Yu (x y:Str):leS x y\/leS y x:=List.le_total (α:=Nat) x.cps.toList y.cps.toList
theorem ZH {x y:Str} (a:leS x y) (b:leS y x):x=y:=by
 have e:=List.le_antisymm (α:=Nat) (as:=x.cps.toList) (bs:=y.cps.toList) a b
 obtain ⟨⟨l⟩⟩:=x
 obtain ⟨⟨m⟩⟩:=y
 simp at e
 rw [e]
theorem strLt_false {x y:Str}:ud y x=false↔leS x y:=by
 unfold ud leS
 exact decide_eq_false_iff_not
theorem xM (x:Str):∀ l,(qbU x l).Perm (x::l)
 | []=>List.Perm.refl _
 | y::l=>by
  unfold qbU
  split
  ·exact ((xM x l).cons y).trans (List.Perm.swap _ _ _)
  ·exact List.Perm.refl _
theorem qQ:∀ l,(kb l).Perm l
 | []=>List.Perm.refl _
 | x::l=>(xM x _).trans ((qQ l).cons x)
theorem xN (x:Str):∀ l,l.Pairwise leS->(qbU x l).Pairwise leS
 | [],_=>List.pairwise_singleton _ _
 | y::l,h=>by
  have h0:=List.pairwise_cons.mp h
  unfold qbU
  split
  ·rename_i hlt
   have hyx:leS y x:=by
    rcases Yu y x with q | q
    ·exact q
    ·rw [<-strLt_false] at q
     rw [q] at hlt
     cases hlt
   refine List.pairwise_cons.mpr ⟨fun z hz=>?_,xN x l h0.2⟩
   rcases List.mem_cons.mp ((xM x l).mem_iff.mp hz) with rfl | hz
   ·exact hyx
   ·exact h0.1 z hz
  ·rename_i hlt
   have hxy:leS x y:=strLt_false.mp (by cases e:ud y x with | true=>exact absurd e hlt | false=>rfl)
   refine List.pairwise_cons.mpr ⟨fun z hz=>?_,h⟩
   rcases List.mem_cons.mp hz with rfl | hz
   ·exact hxy
   ·exact Jk hxy (h0.1 z hz)
theorem kN:∀ l,(kb l).Pairwise leS
 | []=>List.Pairwise.nil
 | x::l=>xN x _ (kN l)
theorem xO:∀ {l m:List Str},l.Perm m->l.Pairwise leS->m.Pairwise leS->l=m
 | [],m,p,_,_=>p.nil_eq
 | x::l,[],p,_,_=>absurd p.length_eq (by simp)
 | x::l,y::m,p,hl,hm=>by
  have a:=List.pairwise_cons.mp hl
  have b:=List.pairwise_cons.mp hm
  have exy:x=y:=by
   have h1:y∈x::l:=p.mem_iff.mpr (List.mem_cons_self ..)
   have h2:x∈y::m:=p.mem_iff.mp (List.mem_cons_self ..)
   rcases List.mem_cons.mp h1 with e | e
   ·exact e.symm
   ·rcases List.mem_cons.mp h2 with e' | e'
    ·exact e'
    ·exact ZH (a.1 y e) (b.1 x e')
  subst exy
  rw [xO p.cons_inv a.2 b.2]
theorem zZ:∀ (x:Str) (l:List Str),risingS x l=true->(x::l).Pairwise leS
 | x,[],_=>List.pairwise_singleton _ _
 | x,y::l,h=>by
  have h:(!ltCps y.cps.toList x.cps.toList&&risingS y l)=true:=h
  rw [Bool.and_eq_true] at h
  have ih:=zZ y l h.2
  have hxy:leS x y:=by
   have h1:=h.1
   rw [ltCps_eq] at h1
   unfold leS
   simpa using h1
  refine List.pairwise_cons.mpr ⟨fun z hz=>?_,ih⟩
  rcases List.mem_cons.mp hz with rfl | hz
  ·exact hxy
  ·exact Jk hxy ((List.pairwise_cons.mp ih).1 z hz)
theorem Kj:∀ (l:List Str),sortedS l=true->l.Pairwise leS
 | [],_=>List.Pairwise.nil
 | x::l,h=>zZ x l h
theorem Jl {ss ks:List Str} (p:ss.Perm ks) (h:sortedS ss=true):ss=kb ks:=xO (p.trans (qQ ks).symm) (Kj ss h) (kN ks)
noncomputable def xP:List D->Option (List Str)
 | []=>some []
 | .str x::l=>(xP l).map (x::·)
 | _::_=>none
noncomputable def yK:D->Option (List Str)
 | .lst ds=>xP ds
 | .tup ds=>xP ds
 | _=>none
noncomputable def qbV (P:Program) (w:World) (p:Addr) (ks:List Str):HO:=.ext fun h=>SetS P w h p ks
theorem qa7 {P:Program} {w:World} {H:Hp} {h:Heap} {p:Addr} {ks:List Str} (x:SetS P w h p ks):ObjOk P w H h p (qbV P w p ks):=
 ⟨x,let ⟨_,_,_,e,_⟩:=x; ⟨_,e⟩,fun _ _ a k=>a.at k⟩
theorem gI {K:Frag} {F:Hp}:∀ {vs:List V} {us:List Value} {ds:List D} {ss:List Str},IsL K F vs ds->Vals vs us->xP ds=some ss->StrsAre us ss/\∀ x∈ss,x.length<=sizeLine
 | [],[],[],ss,_,_,e=>by cases e; exact ⟨.nil,fun x h=>by cases h⟩
 | v::vs,u::us,d::ds,ss,.cons i il,.cons r rl,e=>by
  cases d with
  | str x=>
   cases q:xP ds with
   | none=>
    have e:(xP ds).map (x::·)=some ss:=e
    rw [q] at e
    cases e
   | some sl=>
    have e:(xP ds).map (x::·)=some ss:=e
    rw [q] at e
    cases e
    cases i with
    | str hz=>
     obtain ⟨t,rfl⟩:=r
     have ih:=gI il rl q
     refine ⟨.cons x t ih.1,fun y hy=>?_⟩
     rcases List.mem_cons.mp hy with rfl | hy
     ·exact hz
     ·exact ih.2 y hy
  | _=>cases e
section
variable {X:Cx} {C:Ct} {own:List Nat} {e:Expr} {fa:Sl->Out (D×Sl)} {ma:Mo} {pos:Pos}
theorem Jm:∀ (l ks:List Str) {x:Str},x∈l.foldl kI ks->x∈ks\/x∈l
 | [],ks,x,h=>.inl h
 | y::l,ks,x,h=>by
  rcases Jm l (kI ks y) h with q | q
  ·unfold kI at q
   split at q
   ·exact .inl q
   ·rcases List.mem_append.mp q with q | q
    ·exact .inl q
    ·exact .inr (by rw [List.mem_singleton.mp q]; exact List.mem_cons_self ..)
  ·exact .inr (List.mem_cons_of_mem _ q)
theorem GS (hK:C.K=X.K) (hc:X.calm=true):wS X (.type "set") (fun xs H Q=>∃ x F dx ss,xs=[x]/\Same F H/\TopIs C.K F H x dx/\yK dx=some ss/\ss.length < 4000/\((∀ y∈ss,y.length<=sizeLine)->∀ p,H p=none->Q (.ref p) (upd H p (qbV X.prog X.w p (ss.foldl kI []))))):=by
 intro pins s σ H xs us Q I r h
 obtain ⟨x,F,dx,ss,rfl,sb,tx,es,hl,q⟩:=h
 obtain ⟨u,rfl,ru⟩:=wZ r
 have fin:(∀ y∈ss,y.length<=sizeLine)->∀ h' tk,SetS X.prog X.w h' s.heap.objs.size (ss.foldl kI [])->(∀ b o,s.heap.get? b=some o->h'.get? b=some o)->EP X pins σ Q (.ref s.heap.objs.size) { s with heap:=h',toks:=tk }:=fun hy h' tk hS kp=>
  ⟨.ref s.heap.objs.size,_,I.laid (t':=tk) kp (Nat.le_refl _) (qa7 hS),rfl,q hy _ (I.hok.fresh (Nat.le_refl _))⟩
 cases dx with
 | lst ds=>
  obtain ⟨a,vs,rfl,hq,il⟩:=tx.lst sb
  cases ru
  rw [hK] at hq
  obtain ⟨its,rv,pl,hz⟩:=I.list hq
  obtain ⟨st,hy⟩:=gI il rv es
  have hlt:a < s.heap.objs.size:=let ⟨o,_,e,_⟩:=pl; Heap.lt_size e
  have hn:its.length=ss.length:=st.length
  refine Je (fun A1 Q1 E1 hA k=>?_) (fin hy)
  refine ZD (items:=its.toArray) (hA.trans (I.ok.hd hc)) (Jd (Heap.get?_push_size _ rfl)) (pl.isList.push _) (by simpa using st) (by rw [List.size_toArray,hn]; unfold scanBound; omega) (Nat.ne_of_lt hlt) fun h' tk hS kp=>k h' tk hS fun b o eb=>kp b o (Nat.ne_of_lt (Heap.lt_size eb)) (Heap.get?_push_of_some _ eb)
 | tup ds=>
  obtain ⟨a,vs,rfl,hq,il⟩:=tx.tup sb
  cases ru
  rw [hK] at hq
  obtain ⟨its,rv,pl,hz⟩:=I.tuple hq
  obtain ⟨st,hy⟩:=gI il rv es
  have hlt:a < s.heap.objs.size:=pl.lt
  have hn:its.length=ss.length:=st.length
  refine Je (fun A1 Q1 E1 hA k=>?_) (fin hy)
  refine Ym (items:=its.toArray) (hA.trans (I.ok.hd hc)) (Jd (Heap.get?_push_size _ rfl)) (by obtain ⟨o,e,c⟩:=pl; exact ⟨o,Heap.get?_push_of_some _ e,c⟩) (by simpa using st) (by rw [List.size_toArray,hn]; unfold scanBound; omega) (Nat.ne_of_lt hlt) fun h' tk hS kp=>k h' tk hS fun b o eb=>kp b o (Nat.ne_of_lt (Heap.lt_size eb)) (Heap.get?_push_of_some _ eb)
 | _=>cases es
theorem xQ:∀ {us:List Value} {ss:List Str},StrsAre us ss->Vals (ss.map V.str) us
 | _,_,.nil=>.nil
 | _,_,.cons y t h=>.cons ⟨t,rfl⟩ (xQ h)
theorem Yv (hc:X.calm=true):wS X (.builtin "sorted") (fun xs H Q=>∃ a ks,xs=[.ref a]/\H a=some (qbV X.prog X.w a ks)/\ks.length < 64/\∀ p,H p=none->Q (.ref p) (upd H p (.lst ((kb ks).map V.str)))):=by
 intro pins s σ H xs us Q I r h
 obtain ⟨a,ks,rfl,ha,h64,q⟩:=h
 obtain ⟨u,rfl,ru⟩:=wZ r
 cases ru
 have hS:SetS X.prog X.w s.heap a ks:=(I.hok a _ ha).1
 refine WM (I.ok.hd hc) hS h64 fun h1 h' dr tk vs e ss k1 k2 hp st pm so=>?_
 rw [Jl pm so] at st
 have I1:Inv X pins σ H { s with heap:=h1,drawn:=dr,toks:=tk }:=qfR I k1
 have hz:(kb ks).length<=sizeLine:=by
  rw [(qQ ks).length_eq,sizeLine_eq]
  omega
 refine ⟨.ref h1.objs.size,_,I1.laid (t':=tk) (o:=.lst ((kb ks).map V.str)) k2 (Nat.le_refl _) ⟨by rw [List.length_map]; exact hz,vs.toList,e,xQ st,by simpa [seqObj] using hp⟩,rfl,q _ (I1.hok.fresh (Nat.le_refl _))⟩
theorem qa8:wS X (.builtin "len") (fun xs H Q=>∃ a ks,xs=[.ref a]/\H a=some (qbV X.prog X.w a ks)/\Q (.int ks.length) H):=by
 intro pins s σ H xs us Q I r h
 obtain ⟨a,ks,rfl,ha,q⟩:=h
 obtain ⟨u,rfl,ru⟩:=wZ r
 cases ru
 obtain ⟨es,ep,t,ho,d⟩:SetS X.prog X.w s.heap a ks:=(I.hok a _ ha).1
 have hb:=d.bd
 refine call_len_set ho ⟨rfl,rfl,rfl⟩ rfl d.fits (by unfold scanBound at hb; omega) ?_
 exact ⟨.int ks.length,H,I.tok _,⟨_,by rw [d.size]⟩,q⟩
theorem Kk {m:Mo} {f:Sl->Out (D×Sl)} {σ:St} {H:Hp} {Q R:VK} (h:tE C own m f σ H Q) (i:∀ v H1,Q v H1->R v H1):tE C own m f σ H R:=by
 obtain ⟨F,ρ,rp,po⟩:=h
 refine ⟨F,ρ,rp,?_⟩
 cases q:f ρ with
 | ok p=>
  rw [q] at po
  obtain ⟨d,ρ1⟩:=p
  exact fun v F1 H1 a b c=>i _ _ (po v F1 H1 a b c)
 | exc c ρ1=>
  rw [q] at po
  exact po
 | bad=>
  rw [q] at po
  exact po.elim
noncomputable def wG (d:D):Out D:=match yK d with
 | some ss=>if ss.length < 64 then .ok (.lst ((kb (ss.foldl kI [])).map D.str)) else .bad
 | none=>.bad
noncomputable def gJ (d:D):Out D:=match yK d with
 | some ss=>if ss.length < 4000 then .ok (.int (ss.foldl kI []).length) else .bad
 | none=>.bad
theorem gK {K:Frag} {F:Hp}:∀ {ss:List Str},(∀ x∈ss,x.length<=sizeLine)->IsL K F (ss.map V.str) (ss.map D.str)
 | [],_=>.nil
 | x::l,h=>.cons (.str (h x (List.mem_cons_self ..))) (gK fun y hy=>h y (List.mem_cons_of_mem _ hy))
theorem ga {p p2 pos2:Pos} (hK:C.K=X.K) (hc:X.calm=true) (hg:Gl X "sorted") (hm:X.mg "sorted"=none) (hv:bootBuiltins "sorted"=some (.builtin "sorted")) (hg2:Gl X "set") (hm2:X.mg "set"=none) (hv2:bootBuiltins "set"=some (.type "set")) (ha:PE X e (tE C own ma fa))
  (he:starEach [e] X.env=[(false,eval e X.env)]:=by exact qU rfl) (he2:starEach [.Call (.Name "set" p2) [e] [] pos2] X.env=[(false,eval (.Call (.Name "set" p2) [e] [] pos2) X.env)]:=by exact qU rfl) :
  PE X (.Call (.Name "sorted" p) [.Call (.Name "set" p2) [e] [] pos2] [] pos) (tE C own .fr (d1 wG fa)):=by
 refine jw (um (Yv hc) hg hm hv (qY (wb (GS hK hc) hg2 hm2 hv2 (qY ha jM he) (by decide) (by decide) (by rw [he]; rfl) rfl) jM he2) (by decide) (by decide) (by rw [he2]; rfl) rfl) fun σ H Q h=>?_
 refine Kk (uZ (ma:=ma) h) fun x H1 ⟨x',F,dx,ex,sb,tx,po⟩=>?_
 cases ex
 unfold wG at po
 cases es:yK dx with
 | none=>
  rw [es] at po
  exact po.elim
 | some ss=>
  rw [es] at po
  by_cases hl:ss.length < 64
  ·have po:PoV C .fr F H1 (if ss.length < 64 then .ok (.lst ((kb (ss.foldl kI [])).map D.str)) else .bad) Q:=po
   rw [if_pos hl] at po
   refine ⟨x,F,dx,ss,rfl,sb,tx,es,by omega,fun hy q hq=>⟨q,_,rfl,qo,?_,fun l hl2=>?_⟩⟩
   ·have:=uE ss []
    rw [List.length_nil] at this
    omega
   ·obtain ⟨s1,c1,f1⟩:=kA (u:=qbV X.prog X.w q (ss.foldl kI [])) sb hq
    obtain ⟨s2,c2,f2⟩:=kA (u:=.lst ((kb (ss.foldl kI [])).map V.str)) s1 hl2
    have hl1:H1 l=none:=by
     by_cases z:l=q
     ·rw [z] at hl2
      rw [qo] at hl2
      cases hl2
     ·rwa [qA z] at hl2
    refine po _ _ _ s2 (c1.trans' c2) ⟨l,rfl,hl1,f2,_,qo,gK fun y hy2=>hy y ?_⟩
    rcases Jm ss [] ((qQ _).mem_iff.mp hy2) with z | z
    ·cases z
    ·exact z
  ·have po:PoV C .fr F H1 (if ss.length < 64 then .ok (.lst ((kb (ss.foldl kI [])).map D.str)) else .bad) Q:=po
   rw [if_neg hl] at po
   exact po.elim
theorem Yw {p p2 pos2:Pos} (hK:C.K=X.K) (hc:X.calm=true) (hg:Gl X "len") (hm:X.mg "len"=none) (hv:bootBuiltins "len"=some (.builtin "len")) (hg2:Gl X "set") (hm2:X.mg "set"=none) (hv2:bootBuiltins "set"=some (.type "set")) (ha:PE X e (tE C own ma fa))
  (he:starEach [e] X.env=[(false,eval e X.env)]:=by exact qU rfl) (he2:starEach [.Call (.Name "set" p2) [e] [] pos2] X.env=[(false,eval (.Call (.Name "set" p2) [e] [] pos2) X.env)]:=by exact qU rfl) :
  PE X (.Call (.Name "len" p) [.Call (.Name "set" p2) [e] [] pos2] [] pos) (tE C own .sh (d1 gJ fa)):=by
 refine jw (um qa8 hg hm hv (qY (wb (GS hK hc) hg2 hm2 hv2 (qY ha jM he) (by decide) (by decide) (by rw [he]; rfl) rfl) jM he2) (by decide) (by decide) (by rw [he2]; rfl) rfl) fun σ H Q h=>?_
 refine Kk (uZ (ma:=ma) h) fun x H1 ⟨x',F,dx,ex,sb,tx,po⟩=>?_
 cases ex
 unfold gJ at po
 cases es:yK dx with
 | none=>
  rw [es] at po
  exact po.elim
 | some ss=>
  rw [es] at po
  have po:PoV C .sh F H1 (if ss.length < 4000 then .ok (.int (ss.foldl kI []).length) else .bad) Q:=po
  by_cases hl:ss.length < 4000
  ·rw [if_pos hl] at po
   refine ⟨x,F,dx,ss,rfl,sb,tx,es,hl,fun hy q hq=>⟨q,_,rfl,qo,?_⟩⟩
   obtain ⟨s1,c1,f1⟩:=kA (u:=qbV X.prog X.w q (ss.foldl kI [])) sb hq
   exact po _ _ _ s1 c1 (.int _)
  ·rw [if_neg hl] at po
   exact po.elim
end
@[simp] theorem vf {α β:Type} {a:α} {k:α->Out β}:(Out.ok a).bind k=k a:=rfl
@[simp] theorem qfg {α β:Type} {c:Str} {o:Sl} {k:α->Out β}:(Out.exc c o:Out α).bind k=.exc c o:=rfl
@[simp] theorem qfh {α β:Type} {k:α->Out β}:(Out.bad:Out α).bind k=.bad:=rfl
@[simp] theorem qeF {α:Type} {a:α}:(Out.ok a).plain=.ok a:=rfl
@[simp] theorem qfi {α:Type}:(Out.bad:Out α).plain=.bad:=rfl
@[simp] theorem qfj {α β:Type} {c:Prop} [Decidable c] {a b:Out α} {k:α->Out β}:(if c then a else b).bind k=if c then a.bind k else b.bind k:=by split <;> rfl
@[simp] theorem qfk {α:Type} {c:Prop} [Decidable c] {a b:Out α}:(if c then a else b).plain=if c then a.plain else b.plain:=by split <;> rfl
noncomputable def ZI {α:Type} (d:D) (A B:Out α):Out α:=match d with
 | .bl b=>if b=true then A else B
 | _=>.bad
@[simp] theorem qdS {α:Type} {b:Bool} {A B:Out α}:ZI (.bl b) A B=if b=true then A else B:=rfl
noncomputable def qfl (p:D×Sl):Out (Bool×Sl):=match p.1 with
 | .bl b=>.ok (b,p.2)
 | _=>.bad
@[simp] theorem qeG {b:Bool} {ρ:Sl}:qfl (.bl b,ρ)=.ok (b,ρ):=rfl
noncomputable def QB (ms:List PM):Out (Fl×Sl)->Out (D×List D)
 | .ok (.nx,ρ)=>.ok (.non,qv ρ 0 ms)
 | .ok (.rt d,ρ)=>.ok (d,qv ρ 0 ms)
 | .ok _=>.bad
 | .exc c ρ=>.exc c ((qv ρ 0 ms).map some)
 | .bad=>.bad
theorem runD_ap {N:List Str} {ms:List PM} {f:Sl->Out (Fl×Sl)} {ds:List D}:ke N ms f ds=QB ms (f (qw N ds)):=by
 unfold ke QB
 rfl
@[simp] theorem qfm {ms:List PM} {d:D} {ρ:Sl}:QB ms (.ok (.rt d,ρ))=.ok (d,qv ρ 0 ms):=rfl
@[simp] theorem qfn {ms:List PM} {ρ:Sl}:QB ms (.ok (.nx,ρ))=.ok (.non,qv ρ 0 ms):=rfl
@[simp] theorem qeH {ms:List PM} {c:Str} {ρ:Sl}:QB ms (.exc c ρ)=.exc c ((qv ρ 0 ms).map some):=rfl
@[simp] theorem qeI {ms:List PM} {c:Prop} [Decidable c] {a b:Out (Fl×Sl)}:QB ms (if c then a else b)=if c then QB ms a else QB ms b:=by split <;> rfl
noncomputable def WN (as:List AK) (ρ:Sl):Out (D×List D)->Out (D×Sl)
 | .ok q=>.ok (q.1,je as q.2 ρ)
 | .exc c o=>.exc c (je as (o.map (·.getD .non)) ρ)
 | .bad=>.bad
@[simp] theorem qdT {as:List AK} {ρ:Sl} {q:D×List D}:WN as ρ (.ok q)=.ok (q.1,je as q.2 ρ):=rfl
@[simp] theorem qcY {as:List AK} {ρ:Sl} {c:Str} {o:Sl}:WN as ρ (.exc c o)=.exc c (je as (o.map (·.getD .non)) ρ):=rfl
@[simp] theorem qcZ {as:List AK} {ρ:Sl} {c:Prop} [Decidable c] {a b:Out (D×List D)}:WN as ρ (if c then a else b)=if c then WN as ρ a else WN as ρ b:=by split <;> rfl
variable {ρ:Sl}
@[simp] theorem Kl {i:Nat}:qe i ρ=match ρ[i]? with | some (some d)=>.ok (d,ρ) | _=>.bad:=rfl
@[simp] theorem qfS {d:D}:dC d ρ=.ok (d,ρ):=rfl
section
variable {g g':D->D->Out D} {g1:D->Out D} {fa fb fc f:Sl->Out (D×Sl)} {ft fu:Sl->Out (Bool×Sl)} {fr:Sl->Out (List D×Sl)} {fs ft1:Sl->Out (Fl×Sl)} {fi:Sl->Out (List D×Sl)} {n i:Nat} {as:List AK} {G:List D->Out (D×List D)}
@[simp] theorem Km:d1 g1 fa ρ=(fa ρ).bind fun p=>(g1 p.1).plain.bind fun d=>.ok (d,p.2):=rfl
@[simp] theorem qeJ:d2 g fa fb ρ=(fa ρ).bind fun p=>(fb p.2).bind fun q=>(g p.1 q.1).plain.bind fun d=>.ok (d,q.2):=rfl
@[simp] theorem qeK:xD f ρ=(f ρ).bind fun p=>(uY p.1).bind fun b=>.ok (b,p.2):=rfl
@[simp] theorem qdU:qN f ρ=(f ρ).bind qfl:=rfl
@[simp] theorem qeL:WB ft ρ=(ft ρ).bind fun p=>.ok (!p.1,p.2):=rfl
@[simp] theorem qdV:qeE f ρ=(qN f ρ).bind fun p=>.ok (.bl (!p.1),p.2):=rfl
@[simp] theorem qeM:qaN ft fu ρ=(ft ρ).bind fun p=>if p.1=true then fu p.2 else .ok (false,p.2):=rfl
@[simp] theorem qfo:dOr ft fu ρ=(ft ρ).bind fun p=>if p.1=true then .ok (true,p.2) else fu p.2:=rfl
@[simp] theorem qdW:Kb fa fb ρ=(fa ρ).bind fun p=>ZI p.1 (fb p.2) (.ok (.bl false,p.2)):=by
 unfold Kb
 cases fa ρ with
 | ok p=>
  obtain ⟨d,r⟩:=p
  cases d <;> try rfl
  rename_i b
  cases b <;> rfl
 | exc c o=>rfl
 | bad=>rfl
@[simp] theorem qeN:qdM fa fb ρ=(fa ρ).bind fun p=>ZI p.1 (.ok (.bl true,p.2)) (fb p.2):=by
 unfold qdM
 cases fa ρ with
 | ok p=>
  obtain ⟨d,r⟩:=p
  cases d <;> try rfl
  rename_i b
  cases b <;> rfl
 | exc c o=>rfl
 | bad=>rfl
@[simp] theorem qfp:dIf ft fa fb ρ=(ft ρ).bind fun p=>if p.1=true then fa p.2 else fb p.2:=rfl
@[simp] theorem qc0:uu g g' fa fb fc ρ=(fa ρ).bind fun p=>(fb p.2).bind fun q=>(g p.1 q.1).plain.bind fun z=>ZI z ((fc q.2).bind fun r=>(g' q.1 r.1).plain.bind fun d=>.ok (d,r.2)) (.ok (.bl false,q.2)):=by
 unfold uu
 congr 1
 funext p
 congr 1
 funext q
 congr 1
 funext z
 cases z <;> try rfl
 rename_i b
 cases b <;> rfl
@[simp] theorem qa9:qC ρ=.ok ([],ρ):=rfl
@[simp] theorem ZJ:qd fa fr ρ=(fa ρ).bind fun p=>(fr p.2).bind fun q=>.ok (p.1::q.1,q.2):=rfl
@[simp] theorem ZK:jY fr ρ=(fr ρ).bind fun q=>.ok (D.non::q.1,q.2):=rfl
@[simp] theorem qeO:yE fr ρ=(fr ρ).bind fun p=>if p.1.length<=sizeLine then .ok (.tup p.1,p.2) else .bad:=rfl
@[simp] theorem qeP:xa fr ρ=(fr ρ).bind fun p=>if p.1.length<=sizeLine then .ok (.lst p.1,p.2) else .bad:=rfl
@[simp] theorem qdX:ji ρ=.ok (.nx,ρ):=rfl
@[simp] theorem Kn:qR fs ft1 ρ=(fs ρ).bind fun p=>match p.1 with | .nx=>ft1 p.2 | _=>.ok p:=by
 show _=_
 unfold qR
 cases fs ρ with
 | ok p=>obtain ⟨fl,r⟩:=p; cases fl <;> rfl
 | exc c o=>rfl
 | bad=>rfl
@[simp] theorem qc1:sIf ft fs ft1 ρ=(ft ρ).bind fun p=>if p.1=true then fs p.2 else ft1 p.2:=rfl
@[simp] theorem ZL:kg f ρ=(f ρ).bind fun p=>.ok (.nx,p.2):=rfl
@[simp] theorem xR:jE f ρ=(f ρ).bind fun p=>.ok (.rt p.1,p.2):=rfl
@[simp] theorem Ko:jN i f ρ=(f ρ).bind fun p=>if i < p.2.length then .ok (.nx,p.2.set i (some p.1)) else .bad:=rfl
@[simp] theorem ZM:qt as G fr ρ=(fr ρ).bind fun p=>match qB as p.1 p.2 with | some ds=>WN as p.2 (G ds) | none=>.bad:=rfl
@[simp] theorem qeQ:qfP f ρ=(f ρ).bind fun p=>(qcJ p.1).bind fun ds=>.ok (ds,p.2):=rfl
@[simp] theorem qba:vj f ρ=(f ρ).bind fun p=>(jQ p.1).bind fun ds=>.ok (ds,p.2):=rfl
@[simp] theorem qfq {d:D}:gNm i d ρ=if i < ρ.length then .ok (ρ.set i (some d)) else .bad:=rfl
@[simp] theorem vF {gg:D->Sl->Out Sl}:QV fi gg fs ρ=(fi ρ).bind fun p=>vc gg fs p.1 p.2:=rfl
@[simp] theorem qeR {gg:D->Sl->Out Sl}:qeD f gg ρ=(f ρ).bind fun p=>match gg p.1 p.2 with | .ok ρ'=>.ok (.nx,ρ') | _=>.bad:=rfl
@[simp] theorem qbb {gg:List D->D->Out (List D)}:zX i gg f ρ=if yc ρ[i]?=true then (f ρ).bind fun p=>(match p.2[i]? with | some (some (.lst xs))=>(match gg xs p.1 with | .ok ys=>.ok (.non,p.2.set i (some (.lst ys))) | _=>.bad) | _=>.bad) else .bad:=rfl
@[simp] theorem qfr:ftT ρ=.ok (true,ρ):=rfl
end
end L2.D2
namespace L2.D2
open PySem PySem.Spec PyProof.Rows
def qbT (i j:Int):Prop:=(0<=j/\j<=64)/\-4611686018427387904 < i/\i < 4611686018427387904
instance:∀ i j,Decidable (qbT i j):=fun i j=>inferInstanceAs (Decidable (_/\_))
section
variable {X:Cx} {C:Ct}
theorem GK:OpR X (binaryOp .Pow) (rI qbT fun i j=>.int (i ^ j.toNat)):=opI fun i j _ _ _ _ _ hc q=>by
 obtain ⟨⟨h0,h1⟩,h2,h3⟩:=hc
 exact pow_int_small h0 (by omega) (by omega) q
noncomputable def qeS:D->D->Out D:=wT fun i j=>if qbT i j then .ok (.int (i ^ j.toNat)) else .bad
theorem qc2:OpD X C .sh (binaryOp .Pow) qeS:=Vk GK fun _ _ _=>.int _
end
noncomputable def zK (sep:Str):D->Out D
 | .lst ds=>match xP ds with
  | some ss=>if (ss.map (·.length)).sum+ss.length * sep.length<=16777216/\(Txt.join sep ss).length<=sizeLine then .ok (.str (Txt.join sep ss)) else .bad
  | none=>.bad
 | _=>.bad
section
variable {X:Cx} {C:Ct} {own:List Nat} {e:Expr} {fe:Sl->Out (D×Sl)} {m:Mo} {apos cpos:Pos} {sep:Str}
theorem qbc:MtR X "str.join" (fun x vs H Q=>∃ (sep:Str) (a:Addr) (xs:List V) (ss:List Str),x=.str sep/\vs=[.ref a]/\SqL X.K H a xs/\(∀ us,Vals xs us->StrsAre us ss)/\(ss.map (·.length)).sum+ss.length * sep.length<=16777216/\Q (.str (Txt.join sep ss)) H):=by
 intro pins s σ H x vs v us Q I rx rv h
 obtain ⟨sep,a,xs,ss,rfl,rfl,hq,hb,hz,q⟩:=h
 obtain ⟨t,rfl⟩:=rx
 obtain ⟨u,rfl,ru⟩:=rv.one
 cases ru
 obtain ⟨its,r,pl,_⟩:=I.list hq
 obtain ⟨o,n,ho,hc,hd,hdt⟩:=pl
 exact join_list ⟨o,ho,hc,n,hdt⟩ (by simpa using hb its r) hz fun t' k=>⟨.str (Txt.join sep ss),H,I.tok _,⟨_,rfl⟩,q⟩
theorem Yx {c1 c2} (hK:C.K=X.K) (he:PE X e (tE C own m fe))
  (hbase:attributeBase (.Constant (.str sep) c1 c2) "join" X.env (eval (.Constant (.str sep) c1 c2) X.env)=eval (.Constant (.str sep) c1 c2) X.env:=by rfl)
  (hfew:((backTo cpos (starEach [e] X.env)).all (fun x=>!x.1)&&(backToKw cpos (keywordEach [] X.env)).all (fun x=>x.1.isSome)
   && decide ([e].length+([]:List Keyword).length+(if ([]:List Keyword).isEmpty then 0 else 1) < 30))=true:=by exact ur rfl)
  (hline:(apos.endLine == cpos.line)=true:=by rfl) (hs:starEach [e] X.env=[(false,eval e X.env)]:=by exact qU rfl) :
  PE X (.Call (.Attribute (.Constant (.str sep) c1 c2) "join" apos) [e] [] cpos) (tE C own .sh (d1 (zK sep) fe)):=by
 refine jw (XY PySem.F.plainAttrs_str PySem.F.slot_str_join PySem.F.type_str_join qbc GH (qY he jM hs) hbase hfew hline hs rfl) fun σ H Q h=>?_
 refine ⟨rfl,?_⟩
 obtain ⟨F,ρ,rp,h⟩:=Zf (ma:=m) h
 refine ⟨F,ρ,rp,?_⟩
 cases q:fe ρ with
 | ok p=>
  rw [q] at h
  obtain ⟨d,ρ1⟩:=p
  intro v F1 H1 rp1 c1 mo1
  obtain ⟨F2,dx,sb,tx,po⟩:=h v F1 H1 rp1 c1 mo1
  cases dx <;> try exact po.elim
  rename_i ds
  unfold zK at po
  cases q2:xP ds with
  | none=>simp only [q2] at po; exact po.elim
  | some ss=>
   simp only [q2] at po
   by_cases hz:(ss.map (·.length)).sum+ss.length * sep.length<=16777216/\(Txt.join sep ss).length<=sizeLine
   ·rw [if_pos hz] at po
    obtain ⟨a,vs,rfl,hq,t⟩:=tx.lst sb
    have hq':SqL X.K H1 a vs:=by rw [<-hK]; exact hq
    exact ⟨sep,a,vs,ss,rfl,rfl,hq',fun us r=>(gI t r q2).1,hz.1,po _ F2 H1 sb .refl (.str hz.2)⟩
   ·rw [if_neg hz] at po
    exact po.elim
 | exc c=>rw [q] at h; exact h
 | bad=>rw [q] at h; exact h.elim
end
def qc3 (i j:Int):Prop:=(-(2 ^ 62)<=i/\i < 2 ^ 62)/\-(2 ^ 62)<=j/\j < 2 ^ 62
instance:∀ i j,Decidable (qc3 i j):=fun i j=>inferInstanceAs (Decidable (_/\_))
section
variable {X:Cx} {C:Ct} {own:List Nat} {a b e tg:Expr} {fa fb:Sl->Out (D×Sl)} {ma mb:Mo} {pos:Pos}
theorem Yy:∀ {xs:List V} {us:List Value},xs.length=us.length->(∀ (j:Nat) (x:V) (u:Value),xs[j]?=some x->us[j]?=some u->RelV x u)->Vals xs us
 | [],[],_,_=>.nil
 | x::xs,u::us,hl,h=>.cons (h 0 x u rfl rfl) (Yy (Nat.succ.inj hl) fun j y w a b=>h (j+1) y w (by simpa using a) (by simpa using b))
 | [],_::_,hl,_=>nomatch hl
 | _::_,[],hl,_=>nomatch hl
noncomputable def qdY (p:Addr) (lo hi:Int):HO:=.ext fun h=>∃ t u v,IsRange h p lo hi 1 t u v
theorem qbd {P:Program} {w:World} {H:Hp} {h:Heap} {p:Addr} {lo hi:Int} {t u v:Tok} (x:IsRange h p lo hi 1 t u v):ObjOk P w H h p (qdY p lo hi):=
 ⟨⟨t,u,v,x⟩,⟨_,x⟩,fun _ _ ⟨t,u,v,x⟩ k=>⟨t,u,v,k _ x⟩⟩
theorem Yz:wS X (.type "range") (fun xs H Q=>∃ j:Int,xs=[.int j]/\∀ p,H p=none->Q (.ref p) (upd H p (qdY p 0 j))):=by
 intro pins s σ H xs us Q I r h
 obtain ⟨j,rfl,q⟩:=h
 obtain ⟨u,rfl,ru⟩:=wZ r
 obtain ⟨t,rfl⟩:=ru
 exact call_range_1 ⟨.ref s.heap.objs.size,_,I.laid (t':=s.toks+1+1) (fun b o e=>Heap.get?_push_of_some _ e) (Nat.le_refl _) (qbd (IsRange.new ..)),rfl,q _ (I.hok.fresh (Nat.le_refl _))⟩
theorem ZN (hc:X.calm=true):wS X (.type "list") (fun xs H Q=>∃ r lo hi,xs=[.ref r]/\H r=some (qdY r lo hi)/\(qc3 lo hi/\hi - lo<=1000000)/\∀ p,H p=none->Q (.ref p) (upd H p (.lst ((List.range (hi - lo).toNat).map fun k=>V.int (lo+(k:Nat)))))):=by
 intro pins s σ H xs us Q I r h
 obtain ⟨a,lo,hi,rfl,ha,hz,q⟩:=h
 obtain ⟨u,rfl,ru⟩:=wZ r
 cases ru
 obtain ⟨t,u,v,hr⟩:=(I.hok a _ ha).1
 have e2:Builtin.Range.rangeSize lo hi 1=(((hi - lo).toNat:Nat):Int):=by rw [rangeSize_one]; split <;> omega
 refine call_list_range (n:=(hi - lo).toNat) (I.ok.hd hc) hr (small_one hz.1.1.1 hz.1.1.2 hz.1.2.1 hz.1.2.2) e2 (by omega) fun h' tk acc c k hp hi2=>?_
 refine ⟨.ref s.heap.objs.size,_,I.laid (t':=tk) (o:=.lst ((List.range (hi - lo).toNat).map fun k=>V.int (lo+(k:Nat)))) k (Nat.le_refl _) ⟨by rw [List.length_map,List.length_range,sizeLine_eq]; omega,acc.toList,c,?_,by simpa using hp⟩,rfl,q _ (I.hok.fresh (Nat.le_refl _))⟩
 refine Yy (by rw [List.length_map,List.length_range,Array.length_toList,hi2.1]) fun j x w ex ew=>?_
 rw [List.getElem?_map] at ex
 obtain ⟨k,ek,rfl⟩:=Option.map_eq_some_iff.mp ex
 obtain ⟨hj,rfl⟩:=List.getElem?_eq_some_iff.mp ek
 obtain ⟨t,rfl⟩:=hi2.2 j w (by simpa using ew)
 exact ⟨t,by simp⟩
noncomputable def uF:D->Out D
 | .int j=>if qc3 0 j/\j - 0<=1000000 then .ok (.lst (xc 0 (j - 0).toNat)) else .bad
 | _=>.bad
theorem YA {K:Frag} {F:Hp} {lo:Int}:∀ l:List Nat,IsL K F (l.map fun k=>V.int (lo+(k:Nat))) (l.map fun k=>D.int (lo+(k:Nat)))
 | []=>.nil
 | k::l=>.cons (.int _) (YA l)
theorem WO {p p2 pos2:Pos} (hc:X.calm=true) (hg:Gl X "list") (hm:X.mg "list"=none) (hv:bootBuiltins "list"=some (.type "list")) (hg2:Gl X "range") (hm2:X.mg "range"=none) (hv2:bootBuiltins "range"=some (.type "range")) (ha:PE X e (tE C own ma fa))
  (he:starEach [e] X.env=[(false,eval e X.env)]:=by exact qU rfl) (he2:starEach [.Call (.Name "range" p2) [e] [] pos2] X.env=[(false,eval (.Call (.Name "range" p2) [e] [] pos2) X.env)]:=by exact qU rfl) :
  PE X (.Call (.Name "list" p) [.Call (.Name "range" p2) [e] [] pos2] [] pos) (tE C own .fr (d1 uF fa)):=by
 refine jw (wb (ZN hc) hg hm hv (qY (wb Yz hg2 hm2 hv2 (qY ha jM he) (by decide) (by decide) (by rw [he]; rfl) rfl) jM he2) (by decide) (by decide) (by rw [he2]; rfl) rfl) fun σ H Q h=>?_
 refine Kk (uZ (ma:=ma) h) fun x H1 ⟨x',F,dx,ex,sb,tx,po⟩=>?_
 cases ex
 cases dx <;> try exact po.elim
 rename_i j
 unfold uF at po
 by_cases hz:qc3 0 j/\j - 0<=1000000
 ·simp only [if_pos hz] at po
  obtain rfl:=tx.int
  refine ⟨j,rfl,fun q hq=>⟨q,0,j,rfl,qo,hz,fun l hl2=>?_⟩⟩
  obtain ⟨s1,c1,f1⟩:=kA (u:=qdY q 0 j) sb hq
  obtain ⟨s2,c2,f2⟩:=kA (u:=.lst ((List.range (j - 0).toNat).map fun k=>V.int (0+(k:Nat)))) s1 hl2
  have hl1:H1 l=none:=by
   by_cases z:l=q
   ·rw [z] at hl2
    rw [qo] at hl2
    cases hl2
   ·rwa [qA z] at hl2
  exact po _ _ _ s2 (c1.trans' c2) ⟨l,rfl,hl1,f2,_,qo,YA _⟩
 ·simp only [if_neg hz] at po
  exact po.elim
end
noncomputable def Ite (K:Frag) (a:Addr) (xs:List V):It:=
 ⟨fun i H=>i < xs.length/\SqL K H a xs,fun i H v H'=>∃ x p,xs[i]?=some x/\H p=none/\v=.ref p/\H'=upd H p (.tup [.int (i:Nat),x]),fun i H=>xs.length<=i/\SqL K H a xs⟩
theorem YB {P:Program} {w:World} {K:Frag} {elts:List Expr} {x1} {pos:Pos} (b a:Nat) (xs:List V) (h1:a < b) :
  Turn P w K (.Tuple elts x1 pos) (Ite K a xs) [b+1,b] (b+1) (fun i h=>(∃ old,IsEnum h (b+1) b i old)/\h.IsListIter b a i) where
 mem:=by simp
 obj:=fun i h st c hc=>by
  obtain ⟨⟨old,he⟩,o,ho,hcl,hd⟩:=st
  simp only [List.mem_cons,List.not_mem_nil,or_false] at hc
  rcases hc with rfl | rfl
  ·exact ⟨_,he,fun v z=>by cases z⟩
  ·exact ⟨o,ho,fun v z=>by rw [hd] at z; cases z⟩
 keep:=fun i h h' st k=>by
  obtain ⟨⟨old,he⟩,o,ho,hcl,hd⟩:=st
  exact ⟨⟨old,k _ (by simp) _ he⟩,o,k _ (by simp) _ ho,hcl,hd⟩
 item:=by
  intro X hP hw hK hc i pins s σ H E I hf st hg
  subst hP hw hK
  obtain ⟨⟨old,he⟩,hit⟩:=st
  obtain ⟨hl,q⟩:=hg
  obtain ⟨its,r,pl,_⟩:=I.list q
  have hi:i < its.length:=by rw [<-r.length]; exact hl
  have hx:its.toArray[i]?=some its[i]:=by simp [hi]
  refine wpAny_pyNext_enum_item he hit pl.isList hx (Nat.succ_ne_self b) fun h' eo it' tp hz kp=>?_
  refine ⟨_,rfl,wpAny_letOwnedTupleGo_enum eo fun hq e2 sb2=>?_⟩
  obtain ⟨x,ex,rx⟩:=Yt r (List.getElem?_eq_getElem hi)
  have hT:H s.heap.objs.size=none:=I.hok.fresh (Nat.le_refl _)
  have lt1:b+1 < s.heap.objs.size:=Heap.lt_size he
  have fT:∀ c∈[b+1,b],c≠s.heap.objs.size:=fun c hc=>by
   simp only [List.mem_cons,List.not_mem_nil,or_false] at hc
   have lt':b+1 < s.heap.objs.size:=lt1
   generalize s.heap.objs.size=m at lt'
   intro z
   omega
  have I1:Inv X pins σ (upd H s.heap.objs.size (.tup [.int (i:Nat),x])) { s with heap:=s.heap.push { cls:=.type "tuple",data:=.seq #[.int i s.toks,its[i]] } }:=
   I.laid (t':=s.toks) (fun _ _ e=>Heap.get?_push_of_some _ e) (Nat.le_refl _) ⟨⟨by simp only [List.length_cons,List.length_nil]; rw [sizeLine_eq]; decide,_,Heap.get?_push_size _ rfl,rfl⟩,[.int i s.toks,its[i]],.cons ⟨_,rfl⟩ (.cons rx .nil),⟨_,Heap.get?_push_size _ rfl,rfl,_,rfl⟩⟩
  have I2:Inv X pins σ (upd H s.heap.objs.size (.tup [.int (i:Nat),x])) { s with heap:=hq,toks:=s.toks+1 }:=by
   refine Ys (s:={ s with heap:=s.heap.push { cls:=.type "tuple",data:=.seq #[.int i s.toks,its[i]] } }) (ch:=[b+1,b]) I1 (fun c o nc e=>?_) fun c hc=>⟨by rw [qA (fT c hc)]; exact (hf c hc).1,(hf c hc).2⟩
   simp only [List.mem_cons,List.not_mem_nil,or_false,not_or] at nc
   rw [sb2.2 c nc.1]
   by_cases ec:c=s.heap.objs.size
   ·subst ec
    have e3:(s.heap.push ({ cls:=.type "tuple",data:=.seq #[.int i s.toks,its[i]] }:Obj)).get? s.heap.objs.size=some { cls:=.type "tuple",data:=.seq #[.int i s.toks,its[i]] }:=Heap.get?_push_size _ rfl
    rw [show (s.heap.push ({ cls:=.type "tuple",data:=.seq #[.int i s.toks,its[i]] }:Obj)).get? s.heap.objs.size=some o from e] at e3
    rw [e3]
    exact tp
   ·have e4:s.heap.get? c=some o:=by
     have:=e
     rwa [show (s.heap.push ({ cls:=.type "tuple",data:=.seq #[.int i s.toks,its[i]] }:Obj)).get? c=s.heap.get? c from Heap.get?_push_ne _ _ _ ec] at this
    exact kp c o nc.1 nc.2 e4
  refine ⟨.ref s.heap.objs.size,_,I2,rfl,⟨x,_,ex,hT,rfl,rfl⟩,⟨⟨_,by simpa using e2⟩,?_⟩,fun c hc=>by rw [qA (fT c hc)]; exact (hf c hc).1⟩
  obtain ⟨o,ho,hcl,hd⟩:=it'
  exact ⟨o,(sb2.2 _ (Nat.succ_ne_self b).symm).trans ho,hcl,hd⟩
 done:=by
  intro X hP hw hK hc i pins s σ H E I hf st hg
  subst hP hw hK
  obtain ⟨⟨old,he⟩,hit⟩:=st
  obtain ⟨hl,q⟩:=hg
  obtain ⟨its,r,pl,_⟩:=I.list q
  refine wpAny_pyNext_enum_end (I.ok.hd hc) he hit pl.isList (by simp; rw [<-r.length]; exact hl) fun h' ex=>⟨rfl,Ys (t':=s.toks) (ch:=[b+1,b]) I (fun c o nc e=>?_) hf⟩
  simp only [List.mem_cons,List.not_mem_nil,or_false,not_or] at nc
  exact ex c o nc.2 e
 self:=fun _ _ _ _ _ st h=>wpAny_pyIter_enum st.1.choose_spec h
theorem YC:bootBuiltins "enumerate"=some (.type "enumerate"):=by decide +kernel
noncomputable def xS (xs:List D):List D:=(xs.zipIdx).map fun p=>.tup [.int (p.2:Nat),p.1]
noncomputable def yf (f:Sl->Out (D×Sl)):Sl->Out (List D×Sl):=fun ρ=>(f ρ).bind fun p=>match p.1 with
 | .lst xs=>.ok (xS xs,p.2)
 | _=>.bad
theorem qc4 {K:Frag} {F:Hp} {a:Addr} {xs:List V} {ds:List D} (p:SqL K F a xs) (t:IsL K F xs ds):ItIs K F (Ite K a xs) (xS ds) where
 go:=fun i H hi s=>by
  unfold xS at hi
  rw [List.length_map,List.length_zipIdx] at hi
  exact ⟨by rw [t.length]; exact hi,s.seq p⟩
 yld:=fun i Fi H v H' d e s1 s2 y=>by
  obtain ⟨x,q,hx,hn,rfl,rfl⟩:=y
  obtain ⟨d1,e1,i1⟩:=t.get hx
  have ed:d=.tup [.int (i:Nat),d1]:=by
   unfold xS at e
   rw [List.getElem?_map,List.getElem?_zipIdx,e1] at e
   simpa using e.symm
  subst ed
  obtain ⟨g1,g2⟩:=xE (u:=.tup [.int (i:Nat),x]) s2 hn
  exact ⟨_,g2,g1,.tup (.of qo) (.cons (.int _) (.cons ((i1.mono s1).mono g2.grow) .nil))⟩
 stop:=fun i H hi s=>by
  unfold xS at hi
  rw [List.length_map,List.length_zipIdx] at hi
  exact ⟨by rw [t.length]; exact hi,s.seq p⟩
section
variable {X:Cx} {C:Ct} {own:List Nat} {a:Expr} {fa:Sl->Out (D×Sl)} {ma:Mo} {pos:Pos}
theorem qbe {ta:TA} {p tpos:Pos} {elts:List Expr} {x1} (hg:Gl X "enumerate") (hm:X.mg "enumerate"=none) (ha:PA X [a] ta) (hs:starEach [a] X.env=[(false,eval a X.env)]) :
  PI X (.Tuple elts x1 tpos) (.Call (.Name "enumerate" p) [a] [] pos) (fun σ H R=>ta σ H fun vs H1=>∃ a1 xs,vs=[.ref a1]/\SqL X.K H1 a1 xs/\R (Ite X.K a1 xs) H1):=by
 refine ⟨?_⟩
 intro pins s σ H R I h
 refine Call_ (xx I hg hm YC (PyProof.Rows.callWith_type1 (thn (ha pos pins s σ H _ I h) fun us s1 ⟨vs,H1,I1,r1,q1⟩=>?_) hs rfl))
 obtain ⟨a1,xs,rfl,w1,q⟩:=q1
 obtain ⟨u1,rfl,e1⟩:=wZ r1
 cases e1
 obtain ⟨its,v1,pl,_⟩:=I1.list w1
 have hlt:a1 < s1.heap.objs.size:=let ⟨o,_,e,_⟩:=pl; Heap.lt_size e
 refine call_enumerate_list pl.isList fun h' he hit hz kp=>?_
 refine wpAny_pyIter_enum he ?_
 refine ⟨s1.heap.objs.size+1,_,_,Ite X.K a1 xs,H1,rfl,I1.kept (t':=s1.toks) kp,YB s1.heap.objs.size a1 xs hlt,⟨⟨_,he⟩,hit⟩,fun b hb=>?_,q⟩
 have hle:s1.heap.objs.size<=b:=by
  simp only [List.mem_cons,List.not_mem_nil,or_false] at hb
  rcases hb with rfl | rfl
  ·exact Nat.le_add_right _ _
  ·exact Nat.le_refl _
 exact I1.fpOk hle (I1.hok.fresh hle)
theorem xh {p tpos:Pos} {elts:List Expr} {x1} (hK:C.K=X.K) (hg:Gl X "enumerate") (hm:X.mg "enumerate"=none) (ha:PE X a (tE C own ma fa)) (h1:ma≠.any:=by decide) (hs:starEach [a] X.env=[(false,eval a X.env)]:=by exact qU rfl) :
  PI X (.Tuple elts x1 tpos) (.Call (.Name "enumerate" p) [a] [] pos) (tIt C own (yf fa)):=by
 refine qaX (qbe hg hm (qY (uc ha h1) jM hs) hs) fun σ H R ⟨F,ρ,rp,h⟩=>⟨F,ρ,rp,PoI.bindV h fun v F1 H1 d ρ1 rp1 c1 mo1 h1=>?_⟩
 have mo1:Is C.K F1 v d:=mo1
 cases mo1 with
 | lst p t=>exact ⟨_,_,rfl,by rw [<-hK]; exact rp1.sub.seq p,by rw [<-hK]; exact h1 _ F1 H1 rp1 c1 (qc4 p t)⟩
 | _=>exact h1.elim
end
mutual
def qc5:Nat->Expr->Option D
 | 0,_=>none
 | n+1,e=>match e with
  | .Constant c _ _=>match c with
   | .none=>some .non
   | .bool b=>some (.bl b)
   | .int i=>some (.int i)
   | .str x=>if x.length<=sizeLine then some (.str x) else none
   | _=>none
  | .UnaryOp .USub (.Constant (.int i) _ _) _=>some (.int (-i))
  | .List es _=>(qbW n es).bind fun ds=>if ds.length<=sizeLine then some (.lst ds) else none
  | .Tuple es _ _=>(qbW n es).bind fun ds=>if ds.length<=sizeLine then some (.tup ds) else none
  | _=>none
def qbW:Nat->List Expr->Option (List D)
 | _,[]=>some []
 | 0,_::_=>none
 | n+1,e::es=>(qc5 n e).bind fun d=>(qbW n es).bind fun ds=>some (d::ds)
end
theorem VM {α:Type}:∀ l:List α,((l.map fun _=>AK.vl).all fun a=>decide (a=.vl))=true
 | []=>rfl
 | _::l=>by rw [List.map_cons,List.all_cons,VM l]; rfl
theorem YD {n:Nat} {e:Expr} {d:D} (h:qc5 n e=some d):UE e=true:=by
 cases n with
 | zero=>cases h
 | succ n=>cases e <;> first | rfl | (simp [qc5] at h)
section
variable {X:Cx} {C:Ct} {own:List Nat}
mutual
theorem qc6:∀ (n:Nat) {e:Expr} {d:D},qc5 n e=some d->PE X e (tE C own .sh (dC d))
 | 0,_,_,h=>by cases h
 | n+1,e,d,h=>by
  unfold qc5 at h
  split at h
  ·split at h
   ·cases h; exact UF
   ·cases h; exact gt
   ·cases h; exact qr
   ·split at h
    ·rename_i hz
     cases h
     exact xA hz
    ·cases h
   ·cases h
  ·cases h
   exact jw (JZ xG qr) fun σ H Q h=>h
  ·obtain ⟨ds,h1,h2⟩:=Option.bind_eq_some_iff.mp h
   split at h2
   ·rename_i hz
    cases h2
    have e2:xa (fun ρ=>.ok (ds,ρ))=dC (.lst ds):=by
     funext ρ
     unfold xa dC
     rw [Out.ok_bind,if_pos hz]
    rw [<-e2]
    exact uc (jZ (gL n h1) (VM _)) (by decide)
   ·cases h2
  ·obtain ⟨ds,h1,h2⟩:=Option.bind_eq_some_iff.mp h
   split at h2
   ·rename_i hz
    cases h2
    have e2:yE (fun ρ=>.ok (ds,ρ))=dC (.tup ds):=by
     funext ρ
     unfold yE dC
     rw [Out.ok_bind,if_pos hz]
    rw [<-e2]
    exact kL (gL n h1) (VM _)
   ·cases h2
  ·cases h
theorem gL:∀ (n:Nat) {es:List Expr} {ds:List D},qbW n es=some ds->PA X es (tAr C own (es.map fun _=>.vl) fun ρ=>.ok (ds,ρ))
 | 0,[],ds,h=>by
  cases h
  exact qg
 | _+1,[],ds,h=>by
  cases h
  exact qg
 | 0,_::_,ds,h=>by cases h
 | n+1,e::es,ds,h=>by
  unfold qbW at h
  obtain ⟨d,h1,h⟩:=Option.bind_eq_some_iff.mp h
  obtain ⟨ds',h2,h⟩:=Option.bind_eq_some_iff.mp h
  cases h
  have e2:qd (dC d) (fun ρ=>.ok (ds',ρ))=fun ρ=>.ok (d::ds',ρ):=rfl
  rw [<-e2]
  exact qc (qc6 n h1) (gL n h2) (by decide) (kw (YD h1))
end
theorem qbf {es:List Expr} {ds:List D} {pos:Pos} (n:Nat) (h:qbW n es=some ds):PE X (.List es pos) (tE C own .fr (xa fun ρ=>.ok (ds,ρ))):=jZ (gL n h) (VM _)
end
noncomputable def txI (i:Int):Str:=toString i
def CTx (i:Int):Prop:=i.natAbs.log2 < 1920/\(txI i).length<=sizeLine
instance:∀ i,Decidable (CTx i):=fun i=>inferInstanceAs (Decidable (_/\_))
end L2.D2
namespace PySem
open Builtin Builtin.Str
end PySem
namespace L2.D2
open PySem PySem.Spec PyProof.Rows
def qfT (x y:Str):Prop:=(y.length == 0)=false/\(Txt.split x y).length<=sizeLine/\∀ z∈Txt.split x y,z.length<=sizeLine
instance:∀ x y,Decidable (qfT x y):=fun x y=>inferInstanceAs (Decidable (_/\_))
inductive IntsAre:List Value->List Int->Prop
 | nil:IntsAre [] []
 | cons (y:Int) (t:Tok) {vs:List Value} {ys:List Int} (h:IntsAre vs ys):IntsAre (Value.int y t::vs) (y::ys)
theorem IntsAre.item:∀ {vs:List Value} {ys:List Int},IntsAre vs ys->∀ (i:Nat) (v:Value),vs[i]?=some v->∃ y t,v=Value.int y t/\ys[i]?=some y
 | _,_,.nil,i,v,e=>by simp at e
 | _,_,.cons y t h,0,v,e=>by simp at e; subst e; exact ⟨y,t,rfl,rfl⟩
 | _,_,.cons y t h,i+1,v,e=>by
  obtain ⟨z,t',e1,e2⟩:=h.item i v (by simpa using e)
  exact ⟨z,t',e1,by simpa using e2⟩
section
variable {K:Frag} {F:Hp}
theorem TopIs.ins {H:Hp} {v:V} {c:Addr} {fs:List (Str×D)} (s:Same F H) (h:TopIs K F H v (.ins c fs)):∃ a dx fv,v=.ref a/\H a=some (.ins c dx fv)/\IsF K F fv fs:=by
 rcases h with h | ⟨a,rfl,dx,fv,e,t⟩
 ·cases h with
  | ins e t=>exact ⟨_,_,_,rfl,s _ _ e,t⟩
 ·exact ⟨a,dx,fv,rfl,e,t⟩
end
section
variable {K:Frag} {own own1:List Nat} {F H:Hp} {σ:St} {ρ:Sl} {i:Nat}
theorem Rep.frz {b:Addr} {o:HO} (rp:Rep K own F H σ ρ) (hb:H b=some o) (hF:F b=none) (nA:¬OA own σ b):Rep K own (upd F b o) H σ ρ:=by
 have gr:Same F (upd F b o):=fun c w e=>by rw [qA (qE e hF)]; exact e
 refine ⟨fun c w e=>?_,rp.len,fun j d hj e=>?_,fun j d hj e=>?_,rp.opn,rp.dis⟩
 ·by_cases q:c=b
  ·subst q; rw [qo] at e; cases e; exact hb
  ·rw [qA q] at e; exact rp.sub c w e
 ·obtain ⟨v,h1,h2⟩:=rp.val j d hj e
  exact ⟨v,h1,h2.mono gr⟩
 ·obtain ⟨a,h1,h2,h3⟩:=rp.ow j d hj e
  exact ⟨a,h1,by rw [qA (fun z=>nA ⟨j,hj,by rw [<-z]; exact h1⟩)]; exact h2,h3.grow gr fun _ q=>q⟩
end
noncomputable def xT (x:Str):List V:=x.cps.toList.map fun c=>.str ⟨#[c]⟩
theorem gb:∀ (cs:List Nat) (us:List Value),us.length=cs.length->(∀ (j:Nat) (v:Value),us[j]?=some v->∃ c u,cs[j]?=some c/\v=Value.str ⟨#[c]⟩ u)->Vals (cs.map fun c=>V.str ⟨#[c]⟩) us
 | [],[],_,_=>.nil
 | [],_::_,h,_=>by cases h
 | _::_,[],h,_=>by cases h
 | c::cs,u::us,h,k=>by
  obtain ⟨c',t,e1,e2⟩:=k 0 u rfl
  cases e1
  refine .cons ⟨t,e2⟩ (gb cs us (by simpa using h) fun j v e=>?_)
  simpa using k (j+1) v (by simpa using e)
theorem WP {x:Str} {acc:Array Value} (h:ItemsOf (SignAt x) acc x.cps.size):Vals (xT x) acc.toList:=by
 refine gb _ _ (by simpa using h.1) fun j v e=>?_
 obtain ⟨c,u,e1,e2⟩:=h.2 j v (by rw [<-Array.getElem?_toList]; exact e)
 exact ⟨c,u,by simpa using e1,e2⟩
theorem YE {K:Frag} {F:Hp} (x:Str):IsL K F (xT x) (vd x):=by
 unfold xT vd
 induction x.cps.toList with
 | nil=>exact .nil
 | cons c cs ih=>exact .cons (.str (show 1<=sizeLine by rw [sizeLine_eq]; decide)) ih
noncomputable def Jn:D->Out D
 | .str x=>.ok (.lst (vd x))
 | _=>.bad
section
variable {X:Cx} {C:Ct}
theorem ZO (hc:X.calm=true):gy X C .fr (.type "list") Jn:=by
 intro pins s σ H xs us Q I r h
 obtain ⟨x,F,dx,rfl,sb,tx,po⟩:=h
 cases dx with
 | str z=>
  obtain ⟨rfl,hz⟩:=tx.str
  obtain ⟨u,rfl,ru⟩:=wZ r
  obtain ⟨t,rfl⟩:=ru
  have hl:(xT z).length=z.cps.size:=by simp [xT]
  have hq:H s.heap.objs.size=none:=I.hok.fresh (Nat.le_refl _)
  refine call_list_str (I.ok.hd hc) z t (fun h' tk acc n kp e it=>?_) hz
  have I2:Inv X pins σ (upd H s.heap.objs.size (.lst (xT z))) { s with heap:=h',toks:=tk }:=
   I.laid (t':=tk) kp (Nat.le_refl _) ⟨by rw [hl]; exact hz,acc.toList,n,WP it,by simpa using e⟩
  obtain ⟨s2,c2,f2⟩:=kA (u:=.lst (xT z)) sb hq
  exact ⟨.ref s.heap.objs.size,_,I2,rfl,po _ _ _ s2 c2 ⟨_,rfl,hq,f2,_,qo,YE z⟩⟩
 | _=>exact po.elim
end
section
variable {X:Cx} {C:Ct} {own:List Nat} {pos:Pos}
theorem vr (i:Nat) {x:Str} (hN:X.N[i]?=some x:=by rfl) (hv:Vis X.env.scope x:=by first | exact Or.inl rfl | exact Or.inr (Or.inl rfl) | exact Or.inr (Or.inr rfl)) (ho:i∉own:=by decide) (hd:(x == ("__debug__":Str))=false:=by decide) (hcd:(x == ("__classdict__":Str))=false:=by decide):PE X (.Name x pos) (tE C own .sh (qe i)):=qcB hN hv ho hd hcd
end
section
variable {K:Frag}
theorem Rep.swap {own:List Nat} {F H F' H':Hp} {σ:St} {ρ:Sl} {g:Nat} {b:Addr} {o:D} (rp:Rep K own F H σ ρ) (hg:g∈own) (eb:σ[g]?=some (some (V.ref b))) (c:Chg (fun z=>z=b) F H F' H') (sb:Same F' H') (fb:F' b=none) (ow:OwnIs K F' H' b o) :
  Rep K own F' H' σ (ρ.set g (some o))/\Chg (OA own σ) F H F' H':=by
 obtain ⟨d0,hd0⟩:=rp.opn g hg
 have hl:g < ρ.length:=(List.getElem?_eq_some_iff.mp hd0).1
 refine ⟨⟨sb,by simp [rp.len],fun j d hj e=>?_,fun j d hj e=>?_,fun j hj=>?_,rp.dis⟩,c.mono fun z hz=>⟨g,hg,by rw [hz]; exact eb⟩⟩
 ·rw [List.getElem?_set_ne (fun z=>hj (by rw [<-z]; exact hg))] at e
  obtain ⟨v,h1,h2⟩:=rp.val j d hj e
  exact ⟨v,h1,h2.mono c.grow⟩
 ·by_cases q:j=g
  ·subst q
   rw [List.getElem?_set_self hl] at e
   cases e
   exact ⟨b,eb,fb,ow⟩
  ·rw [List.getElem?_set_ne (Ne.symm q)] at e
   obtain ⟨a,h1,h2,h3⟩:=rp.ow j d hj e
   have na:a≠b:=fun z=>by subst z; exact q (rp.dis j g a hj hg h1 eb)
   refine ⟨a,h1,?_,h3.grow c.grow fun o q=>c.keep a o q na⟩
   cases qa:F' a with
   | none=>rfl
   | some u=>
    rcases c.new a (by rw [qa]; simp) with z | z | z
    ·exact absurd h2 z
    ·exact absurd z h3.there
    ·exact absurd z na
 ·by_cases q:j=g
  ·subst q; exact ⟨o,List.getElem?_set_self hl⟩
  ·rw [List.getElem?_set_ne (Ne.symm q)]; exact rp.opn j hj
end
theorem IsL.dropLast {K:Frag} {F:Hp} {vs:List V} {ds:List D} (h:IsL K F vs ds):IsL K F vs.dropLast ds.dropLast:=by
 rw [List.dropLast_eq_take,List.dropLast_eq_take,h.length]
 exact h.take _
noncomputable def VN (n:Nat) (fw fx:Sl->Out (D×Sl)):Sl->Out (Fl×Sl):=fun ρ=>(fw ρ).bind fun p=>(fx p.2).bind fun q=>match (q.2[n]?:Option (Option D)),q.1 with
 | some (some (.lst ds)),.int k=>(match ixN ds.length k with | some j=>.ok (.nx,q.2.set n (some (.lst (ds.set j p.1)))) | none=>.bad)
 | _,_=>.bad
section
variable {X:Cx} {C:Ct} {own:List Nat} {m mo mw mx:Mo} {e o w ix:Expr} {fe fo fw fx:Sl->Out (D×Sl)} {pos apos cpos p1 p2 p3:Pos}
theorem YF {n:Nat} {x:Str} (hN:X.N[n]?=some x) (hv:Vis X.env.scope x) (ho:n∈own) (hw:PE X w (tE C own mw fw)) (hx:PE X ix (tE C own mx fx)) (hmw:mw≠.any:=by decide)
  (hd:(x == ("__debug__":Str))=false:=by decide) (hcd:(x == ("__classdict__":Str))=false:=by decide)
  (hsub:∀ v,assign (.Subscript (.Name x p1) ix p2) X.env v=(do
   let ov <-holding [v] (eval (.Name x p1) X.env)
   let iv <-holding [v,ov] (eval ix X.env)
   standAt p2
   holding [v,ov,iv] (setItem ov iv v)
   release [v,ov,iv] []):=by intro _; rfl)
  (ha1:swapsWithSole [.Subscript (.Name x p1) ix p2] w p3.line X.env=pure false:=by rfl) (ha2:swappedStores [.Subscript (.Name x p1) ix p2] w X.env=pure none:=by rfl)
  (ha3:(assignEach [.Subscript (.Name x p1) ix p2] X.env).map (·.2)=[assign (.Subscript (.Name x p1) ix p2) X.env]:=by rfl) :
  PS X (.Assign [.Subscript (.Name x p1) ix p2] w p3) (tSt C own own (VN n fw fx)):=by
 refine zG (GI (uc hw hmw) (qcd (wa hN hv hd hcd) hx XX hsub) ha1 ha2 ha3) fun Dn σ H ⟨F,ρ,rp,h⟩=>⟨F,ρ,rp,PoS.bindE h fun v F1 H1 d ρ1 rp1 c1 mo1 h1=>?_⟩
 have mo1:Is C.K F1 v d:=mo1
 obtain ⟨d0,hd0⟩:=rp1.opn n ho
 obtain ⟨a,e1,hF,o0⟩:=rp1.ow n d0 ho hd0
 refine ⟨_,e1,F1,ρ1,rp1,PoS.bindE h1 fun iv F2 H2 di ρ2 rp2 c2 mo2 h2=>?_⟩
 obtain ⟨d2,hd2⟩:=rp2.opn n ho
 obtain ⟨a',e2,hF2,o2⟩:=rp2.ow n d2 ho hd2
 rw [e1] at e2
 cases e2
 simp only [hd2] at h2
 cases d2 with
 | lst ds=>
  cases di with
  | int k=>
   have hiv:=mo2.top.int
   subst hiv
   obtain ⟨xs,ex,il⟩:=o2
   cases q:ixN ds.length k with
   | none=>simp only [q] at h2; exact h2.elim
   | some j=>
    simp only [q] at h2
    obtain ⟨r3,c3⟩:=rp2.write (u:=.lst (xs.set j v)) (d:=.lst (ds.set j d)) ho e1 ⟨_,qo,il.set (mo1.mono c2.grow) j⟩
    exact ⟨a,xs,k,j,rfl,rfl,ex,by rw [il.length]; exact q,h2 σ F2 _ ⟨r3,c3,fun _ z=>.inl z,fun _ _=>rfl⟩⟩
  | _=>exact h2.elim
 | _=>exact h2.elim
end
section
variable {X:Cx} {C:Ct} {own:List Nat} {mb mx:Mo} {b ix:Expr} {fb:Sl->Out (D×Sl)} {pos apos cpos px:Pos}
noncomputable def d2O (i:Nat) (g:D->D->Out D) (fb:Sl->Out (D×Sl)):Sl->Out (D×Sl):=fun ρ=>(fb ρ).bind fun q=>match (q.2[i]?:Option (Option D)) with
 | some (some d)=>(g d q.1).plain.bind fun r=>.ok (r,q.2)
 | _=>.bad
theorem qbg {i:Nat} {g:D->D->Out D} {σ:St} {H:Hp} {Q:VK} {m:Mo} (ho:i∈own) (h:tE C own m (d2O i g fb) σ H Q) :
  qd4 i σ H fun x H1=>tE C own mb fb σ H1 fun y H2=>∃ F dx dy,Same F H2/\TopIs C.K F H2 x dx/\TopIs C.K F H2 y dy/\PoV C m F H2 (g dx dy) Q:=by
 obtain ⟨F,ρ,rp,h⟩:=h
 obtain ⟨d0,hd0⟩:=rp.opn i ho
 obtain ⟨a,e1,hF,o0⟩:=rp.ow i d0 ho hd0
 refine ⟨_,e1,F,ρ,rp,Po.bind h fun v F1 H1 d ρ1 rp1 c1 mo1 h1=>?_⟩
 obtain ⟨d1,hd1⟩:=rp1.opn i ho
 obtain ⟨a',e2,hF1,o1⟩:=rp1.ow i d1 ho hd1
 rw [e1] at e2
 cases e2
 simp only [hd1] at h1
 exact ⟨F1,d1,d,rp1.sub,.inr ⟨a,rfl,o1⟩,mo1.top,PoV.of rp1 h1⟩
theorem qc7 {i:Nat} {x:Str} (hK:C.K=X.K) (hu:X.A.units+64 < cLine) (hN:X.N[i]?=some x) (hv:Vis X.env.scope x) (ho:i∈own) (hb:PE X b (tE C own mb fb)) (hs:JV b)
  (hd:(x == ("__debug__":Str))=false:=by decide) (hcd:(x == ("__classdict__":Str))=false:=by decide):PE X (.Subscript (.Name x px) b pos) (tE C own .sh (d2O i ixD fb)):=by
 refine jw (qcq (GO (by omega)) (wa hN hv hd hcd) hb hs) fun σ H Q h=>?_
 obtain ⟨v,e1,F,ρ,rp,h⟩:=qbg (mb:=mb) ho h
 refine ⟨v,e1,F,ρ,rp,?_⟩
 cases q2:fb ρ with
 | ok p=>
  rw [q2] at h
  obtain ⟨d',ρ3⟩:=p
  intro w F3 H3 rp3 c3 mo3
  obtain ⟨F4,dx,dy,sb,tx,ty,po⟩:=h w F3 H3 rp3 c3 mo3
  exact GP (σ:=σ) hK sb tx ty po
 | exc c=>rw [q2] at h; exact h
 | bad=>rw [q2] at h; exact h.elim
noncomputable def Jo (i:Nat):Sl->Out (D×Sl):=fun ρ=>match (ρ[i]?:Option (Option D)) with
 | some (some (.lst es))=>(match es[es.length - 1]? with | some d=>.ok (d,ρ.set i (some (.lst es.dropLast))) | none=>.bad)
 | _=>.bad
theorem qbh {i:Nat} {x:Str} (hN:X.N[i]?=some x) (hv:Vis X.env.scope x) (ho:i∈own) (hd:(x == ("__debug__":Str))=false:=by decide) (hcd:(x == ("__classdict__":Str))=false:=by decide)
  (hbase:attributeBase (.Name x px) "pop" X.env (eval (.Name x px) X.env)=eval (.Name x px) X.env:=by rfl) (hline:(apos.endLine == cpos.line)=true:=by rfl) :
  PE X (.Call (.Attribute (.Name x px) "pop" apos) [] [] cpos) (tE C own .sh (Jo i)):=by
 refine jw (qct PySem.F.plainAttrs_list PySem.F.slot_list_pop PySem.F.type_list_pop qcu (wa hN hv hd hcd) hbase hline) fun σ H Q ⟨F,ρ,rp,h⟩=>?_
 obtain ⟨d0,hd0⟩:=rp.opn i ho
 obtain ⟨a,e1,hF,o0⟩:=rp.ow i d0 ho hd0
 unfold Jo at h
 simp only [hd0] at h
 cases d0 with
 | lst es=>
  obtain ⟨xs,ex,il⟩:=o0
  refine ⟨_,e1,.inl ⟨rfl,xs,.inl (.inl ex)⟩,?_⟩
  cases q:es[es.length - 1]? with
  | none=>simp only [q] at h; exact h.elim
  | some d=>
   simp only [q] at h
   obtain ⟨v,ev,iv⟩:=il.getD q
   rw [<-il.length] at ev
   obtain ⟨r2,c3⟩:=rp.write (u:=.lst xs.dropLast) (d:=.lst es.dropLast) ho e1 ⟨_,qo,il.dropLast⟩
   exact ⟨a,xs,v,rfl,rfl,ex,ev,h v F _ r2 c3 iv⟩
 | _=>exact h.elim
end
def FlyA (h:Heap) (ex T:Addr) (cls:Value):Prop:=∃ oe vs oT ts fl,h.get? ex=some oe/\oe.cls=cls/\oe.data=.fields vs/\vs[1]?=some (.ref T)/\T≠ex/\h.get? T=some oT/\oT.data=.fields ts/\ts[3]?=some fl
theorem FlyA.tr {h base:Heap} {ex T:Addr} {cls:Value} (f:FlyA h ex T cls) (hb:base.get? T=none):∃ a0 fl,h.TracedAtW base ex cls a0 fl:=by
 obtain ⟨oe,vs,oT,ts,fl,a1,a2,a3,a4,a5,a6,a7,a8⟩:=f
 have hz:0 < vs.size:=Nat.lt_of_succ_lt (Array.getElem?_eq_some_iff.mp a4).1
 exact ⟨vs[0],fl,oe,vs,T,oT,ts,a1,⟨a2,by simp [hz]⟩,a3,a4,hb,a5,a6,a7,a8⟩
noncomputable def gM (n:Nat) (fw fx:Sl->Out (D×Sl)):Sl->Out (Fl×Sl):=fun ρ=>(fw ρ).bind fun p=>(fx p.2).bind fun q=>match (q.2[n]?:Option (Option D)) with
 | some (some (.dct kvs))=>(match QA q.1 with
  | some k=>if kvs.length < sizeLine then .ok (.nx,q.2.set n (some (.dct (Kf kvs k p.1)))) else .bad
  | none=>.bad)
 | _=>.bad
section
variable {X:Cx} {C:Ct} {own:List Nat} {w ix:Expr} {fw fx:Sl->Out (D×Sl)} {mw mx:Mo} {p1 p2 p3:Pos}
theorem gN {n:Nat} {x:Str} (hu:X.A.units+64 < cLine) (hN:X.N[n]?=some x) (hv:Vis X.env.scope x) (ho:n∈own) (hw:PE X w (tE C own mw fw)) (hx:PE X ix (tE C own mx fx)) (hmw:mw≠.any:=by decide)
  (hd:(x == ("__debug__":Str))=false:=by decide) (hcd:(x == ("__classdict__":Str))=false:=by decide) (hs:swapsWith w (some (.Subscript (.Name x p1) ix p2)) p3.line X.env=pure false:=by rfl) :
  PS X (.Assign [.Subscript (.Name x p1) ix p2] w p3) (tSt C own own (gM n fw fx)):=by
 refine zG (qaI (by omega) (wa hN hv hd hcd) hx (uc hw hmw) hs) fun Dn σ H ⟨F,ρ,rp,h⟩=>⟨F,ρ,rp,PoS.bindE h fun v F1 H1 d ρ1 rp1 c1 mo1 h1=>?_⟩
 have mo1:Is C.K F1 v d:=mo1
 obtain ⟨d0,hd0⟩:=rp1.opn n ho
 obtain ⟨a,e1,hF,o0⟩:=rp1.ow n d0 ho hd0
 refine ⟨_,e1,F1,ρ1,rp1,PoS.bindE h1 fun iv F2 H2 di ρ2 rp2 c2 mo2 h2=>?_⟩
 obtain ⟨d2,hd2⟩:=rp2.opn n ho
 obtain ⟨a',e2,hF2,o2⟩:=rp2.ow n d2 ho hd2
 rw [e1] at e2
 cases e2
 simp only [hd2] at h2
 cases d2 with
 | dct kvs=>
  cases q:QA di with
  | none=>simp only [q] at h2; exact h2.elim
  | some k=>
   simp only [q] at h2
   have hiv:=qdR mo2.top q
   subst hiv
   obtain ⟨kv,ex,ik⟩:=o2
   by_cases hz:kvs.length < sizeLine
   ·simp only [if_pos hz] at h2
    obtain ⟨r3,c3⟩:=rp2.write (u:=.dK (zE kv k v)) (d:=.dct (Kf kvs k d)) ho e1 ⟨_,qo,ik.put (mo1.mono c2.grow)⟩
    exact ⟨a,_,rfl,DPut.k ex (by rw [ik.length]; exact hz),h2 σ F2 _ ⟨r3,c3,fun _ z=>.inl z,fun _ _=>rfl⟩⟩
   ·simp only [if_neg hz] at h2; exact h2.elim
 | _=>exact h2.elim
end
noncomputable def YG (i:Nat):Sl->Out (D×Sl):=fun ρ=>match (ρ[i]?:Option (Option D)) with
 | some (some (.lst (d::es)))=>.ok (d,ρ.set i (some (.lst es)))
 | _=>.bad
section
variable {X:Cx} {C:Ct} {own:List Nat} {px apos cpos:Pos}
theorem qbi:MtR X "list.pop" (fun x vs H Q=>∃ l v xs,x=.ref l/\vs=[.int 0]/\H l=some (.lst (v::xs))/\Q v (upd H l (.lst xs))):=by
 intro pins s σ H x vs v us Q I rx rv h
 obtain ⟨l,y,xs,rfl,rfl,hH,q⟩:=h
 exact Za pins s σ H _ _ v us Q I rx rv ⟨l,_,0,0,y,rfl,rfl,hH,by decide,by decide,by simp [seqIndex?],rfl,q⟩
theorem qbj {i:Nat} {x:Str} {j:Nat} {pz:Pos} (hN:X.N[i]?=some x) (hv:Vis X.env.scope x) (ho:i∈own) (hd:(x == ("__debug__":Str))=false:=by decide) (hcd:(x == ("__classdict__":Str))=false:=by decide)
  (hbase:attributeBase (.Name x px) "pop" X.env (eval (.Name x px) X.env)=eval (.Name x px) X.env:=by rfl) (hline:(apos.endLine == cpos.line)=true:=by rfl)
  (hfew:((backTo cpos (starEach [.Constant (.int 0) j pz] X.env)).all (fun x=>!x.1)&&(backToKw cpos (keywordEach [] X.env)).all (fun x=>x.1.isSome)
   && decide ([Expr.Constant (.int 0) j pz].length+([]:List Keyword).length+(if ([]:List Keyword).isEmpty then 0 else 1) < 30))=true:=by exact ur rfl)
  (hs:starEach [.Constant (.int 0) j pz] X.env=[(false,eval (.Constant (.int 0) j pz) X.env)]:=by exact qU rfl) :
  PE X (.Call (.Attribute (.Name x px) "pop" apos) [.Constant (.int 0) j pz] [] cpos) (tE C own .sh (YG i)):=by
 refine jw (XY PySem.F.plainAttrs_list PySem.F.slot_list_pop PySem.F.type_list_pop qbi (wa hN hv hd hcd) (qY GG jM hs) hbase hfew hline hs rfl) fun σ H Q ⟨F,ρ,rp,h⟩=>?_
 obtain ⟨d0,hd0⟩:=rp.opn i ho
 obtain ⟨a,e1,hF,o0⟩:=rp.ow i d0 ho hd0
 unfold YG at h
 simp only [hd0] at h
 cases d0 with
 | lst es=>
  cases es with
  | nil=>exact h.elim
  | cons d es=>
   obtain ⟨xs,ex,il⟩:=o0
   cases il with
   | cons iv il=>
    refine ⟨_,e1,.inl ⟨rfl,_,.inl (.inl ex)⟩,?_⟩
    obtain ⟨r2,c3⟩:=rp.write (u:=.lst _) (d:=.lst es) ho e1 ⟨_,qo,il⟩
    exact ⟨a,_,_,rfl,rfl,ex,h _ F _ r2 c3 iv⟩
 | _=>exact h.elim
end
noncomputable def qdZ (kvs:List (Key×D)) (k:Key) (d:D):D:=match kvs.find? fun kv=>decide (kv.1=k) with
 | some kv=>kv.2
 | none=>d
noncomputable def ZP (fo fe ff:Sl->Out (D×Sl)):Sl->Out (D×Sl):=fun ρ=>(fo ρ).bind fun p=>if (match p.1 with | .dct _=>true | _=>false)=true then (fe p.2).bind fun q=>(ff q.2).bind fun r=>(match p.1 with
 | .dct kvs=>(match QA q.1 with
  | some k=>.ok (qdZ kvs k r.1,r.2)
  | none=>.bad)
 | _=>.bad) else .bad
theorem IsK.miss {K:Frag} {F:Hp} {k:Key}:∀ {vs:List (Key×V)} {ds:List (Key×D)},IsK K F vs ds->(ds.find? fun kv=>decide (kv.1=k))=none->JK vs k=none
 | _,_,.nil,e=>rfl
 | _,_,.cons (k:=k') (vs:=vs) h t,e=>by
  by_cases q:k'=k
  ·rw [List.find?_cons_of_pos (by simp [q])] at e
   cases e
  ·rw [List.find?_cons_of_neg (by simp [q])] at e
   rw [uq q]
   exact IsK.miss t e
section
variable {X:Cx} {C:Ct} {own:List Nat} {o e f:Expr} {fo fe ff:Sl->Out (D×Sl)} {me mf:Mo} {apos cpos:Pos}
theorem qbk (hu:X.A.units+64 < cLine) (ho:PE X o (tE C own .sh fo)) (he:PE X e (tE C own me fe)) (hf:PE X f (tE C own mf ff)) (hmf:mf≠.any:=by decide) (hme:me≠.any:=by decide)
  (hbase:attributeBase o "get" X.env (eval o X.env)=eval o X.env:=by rfl)
  (hfew:((backTo cpos (starEach [e,f] X.env)).all (fun x=>!x.1)&&(backToKw cpos (keywordEach [] X.env)).all (fun x=>x.1.isSome)
   && decide (([e,f]:List Expr).length+([]:List Keyword).length+(if ([]:List Keyword).isEmpty then 0 else 1) < 30))=true:=by exact ur rfl)
  (hline:(apos.endLine == cpos.line)=true:=by rfl) (htr:backTo cpos (starEach [e,f] X.env)=[(false,eval e X.env),(false,eval f X.env)]:=by rfl) :
  PE X (.Call (.Attribute o "get" apos) [e,f] [] cpos) (tE C own .sh (ZP fo fe ff)):=by
 refine jw (Ze (by omega) ho he (uc hf hmf) ⟨hbase,hfew,hline,htr⟩) fun σ H Q ⟨F,ρ,rp,h⟩=>?_
 refine ⟨F,ρ,rp,Po.bind h fun v F1 H1 d ρ1 rp1 c1 mo1 h1=>?_⟩
 have mo1:Is C.K F1 v d:=mo1
 cases d with
 | dct kvs=>
  simp only [if_true] at h1
  cases mo1 with
  | dct ha ik=>
   rename_i a kv
   refine ⟨a,rfl,.inl ⟨kv,.inl (rp1.sub _ _ ha)⟩,F1,ρ1,rp1,Po.bind h1 fun y F2 H2 dy ρ2 rp2 c2 mo2 h2=>?_⟩
   refine ⟨F2,ρ2,rp2,Po.bind h2 fun z F3 H3 dz ρ3 rp3 c3 mo3 h3=>?_⟩
   have mo3:Is C.K F3 z dz:=mo3
   cases q:QA dy with
   | none=>simp only [q] at h3; exact h3.elim
   | some k=>
    simp only [q] at h3
    have hy:=qdR mo2.top q
    subst hy
    have g23:F3 a=some (.dK kv):=c3.grow _ _ (c2.grow _ _ ha)
    have ik3:IsK C.K F3 kv kvs:=(ik.mono c2.grow).mono c3.grow
    refine ⟨JK kv k,.inl ⟨kv,k,.inl (rp3.sub _ _ g23),rfl,rfl⟩,?_⟩
    unfold qdZ at h3
    cases q2:kvs.find? fun kv=>decide (kv.1=k) with
    | none=>
     simp only [q2] at h3
     rw [ik3.miss q2]
     exact h3 z F3 H3 rp3 .refl mo3
    | some kd=>
     simp only [q2] at h3
     obtain ⟨w,e1,e2⟩:=ik3.find q2
     rw [e1]
     exact h3 w F3 H3 rp3 .refl e2
 | _=>exact h1.elim
end
end L2.D2
namespace L2.D2
open PySem PySem.Spec PyProof.Rows PySem.W
section
variable {prog:Program} {w:World} {A:Around} {E:Value->Shared->Prop} {s:Shared} {T:String} {r d:Addr} {n:Nat} {P:Nat->Value->Prop} {OK:Heap->Prop}
theorem YH {Q:List Value->Shared->Prop} (K:KdlSrc prog w T r d n P OK) (hh:A.handled=none) (hok:OK s.heap) (hn:n<=sizeLine)
  (hQ:∀ h' tk acc,(∀ b o,s.heap.get? b=some o->h'.get? b=some o)->ItemsOf P acc n->Q acc.toList { s with heap:=h',toks:=tk }):wpAny (model prog w) A (collect (.ref r)) Q E s:=by
 unfold collect
 refine wpAny_bind (wpAny_runValue (codeAny_builtin F.entry_proto_collect ?_))
 rw [Around.under_plainId F.plain_proto_collect _]
 show wpAny _ A.in1 (newList [] >>= fun l=>again (.builtin "list.__iadd__" ⟨[l,.ref r],[]⟩)) _ _ s
 refine wpAny_bind (wpAny_newObj_type ?_)
 refine wpAny_pure ⟨plainId_quiet F.plain_list_iadd _,codeAny_builtin F.entry_list_iadd ?_⟩
 rw [Around.under_plainId F.plain_list_iadd _]
 have hlt:=K.there _ hok
 have hS:(s.heap.push { cls:=.type "list",data:=.seq ([]:List Value).toArray }).get? s.heap.objs.size=some { cls:=.type "list",data:=.seq ([]:List Value).toArray }:=Heap.get?_push_size _ rfl
 show wpAny _ A.in1 (Builtin.List.listExtendWith (.ref s.heap.objs.size) (.ref r) (.ref s.heap.objs.size)) _ _ _
 refine kdl_extend (R:=fun r s'=>match r with
  | .ok (.ret v)=>wpAny (model prog w) A (match v with
   | .ref a=>do
    let o <-load a
    match o.data with
     | .seq xs _=>pure xs.toList
     | _=>unsupported "internal:collect"
   | _=>unsupported "internal:collect") Q E s'
  | .ok _=>False
  | .error e=>E e s') (s:={ s with heap:=s.heap.push { cls:=.type "list",data:=.seq ([]:List Value).toArray } }) K hh (K.keep _ _ hok fun b _ o e=>Heap.get?_push_of_some _ e) _ (Nat.ne_of_gt hlt.1) (Nat.ne_of_gt hlt.2) _ 0 hS (fun h' tk acc' c' hk hS' hacc=>?_) hn
 show wpAny _ A (load s.heap.objs.size >>= _) _ _ _
 refine wpAny_bind (wpAny_load hS' ?_)
 exact wpAny_pure (hQ h' tk acc' (fun b o e=>hk b o (Nat.ne_of_lt (Heap.lt_size e)) (Heap.get?_push_of_some _ e)) hacc)
theorem YI:∀ (ss:List Str) (us:List Value),us.length=ss.length->(∀ (j:Nat) (v:Value),us[j]?=some v->∃ x t,ss[j]?=some x/\v=Value.str x t)->StrsAre us ss
 | [],[],_,_=>.nil
 | [],_::_,h,_=>by cases h
 | _::_,[],h,_=>by cases h
 | x::ss,u::us,h,k=>by
  obtain ⟨x',t,e1,e2⟩:=k 0 u rfl
  cases e1
  rw [e2]
  refine .cons _ t (YI ss us (by simpa using h) fun j v e=>?_)
  simpa using k (j+1) v (by simpa using e)
theorem ZQ {ss:List Str} {Q:Value->Shared->Prop} (K:KdlSrc prog w T r d n P OK) (hh:A.handled=none) (hok:OK s.heap) (hss:∀ acc:Array Value,ItemsOf P acc n->StrsAre acc.toList ss) (h64:ss.length < 64) (hn:n<=sizeLine)
  (hQ:∀ (h1 h':Heap) tk vs e ss',(∀ b o,s.heap.get? b=some o->h1.get? b=some o)->(∀ b o,h1.get? b=some o->h'.get? b=some o)->h'.get? h1.objs.size=some (seqObj "list" vs e)->StrsAre vs.toList ss'->ss'.Perm ss->sortedS ss'=true->Q (.ref h1.objs.size) { s with heap:=h',toks:=tk }) :
  wpAny (model prog w) A (call (.builtin "sorted") [.ref r]) Q E s:=by
 refine Calls.call_function_entry kind_sorted plain_sorted entry_sorted (args_sorted1 _) ?_; unfold Builtin.«sorted»
 refine wpAny_bind (m:=checkCount "sorted" 1 1 _) (wpAny_pure ?_)
 refine wpAny_bind (YH (A:=A.in1) K (show A.in1.handled=none from hh) hok hn fun h1 tk acc k1 hi=>?_)
 have hst:=hss acc hi
 have hl:acc.toList.length < 64:=by rw [hst.length]; exact h64
 refine wpAny_bind (wpAny_newList ?_ (by rw [sizeLine_eq]; omega))
 have hoL:(h1.push (seqObj "list" acc.toList.toArray 0)).get? h1.objs.size=some (seqObj "list" acc.toList.toArray 0):=Heap.get?_push_size _ rfl
 refine wpAny_bind (wpAny_holding (wpAny_call_entry slot_list_sort (s:={ s with heap:=h1.push (seqObj "list" acc.toList.toArray 0),toks:=tk }) ⟨_,hoL,rfl⟩ entry_list_sort (list_sort_treeK strKind_oneLt hoL hst.keysOf (fun v₁ v₂ rest e=>keyKind_strs (by rw [<-e]; exact hst)) hl fun st' a1 a2=>⟨_,rfl,?_⟩) (args_list_sort _)))
 obtain ⟨ss',b1,b2,b3⟩:=sorted_out_str hst a1 a2
 obtain ⟨e,he⟩:=sortedHeap_at (out:=(arrOf st').map (·.2)) hoL
 refine wpAny_pure ⟨_,rfl,hQ h1 _ tk _ e ss' k1 (fun b o eb=>?_) he b1 b2 b3⟩
 have hb:=Heap.lt_size eb
 rw [sortedHeap_old (Nat.ne_of_lt hb) (by rw [Heap.size_push]; exact Nat.lt_succ_of_lt hb)]
 exact Heap.get?_push_of_some _ eb
end
noncomputable def Kp {α:Type}:List (Key×α)->Option (List Str)
 | []=>some []
 | (.inr x,_)::l=>(Kp l).map (x::·)
 | (.inl _,_)::_=>none
theorem VO {α:Type}:∀ {l:List (Key×α)} {ss:List Str},Kp l=some ss->l.map (·.1)=ss.map Sum.inr
 | [],ss,h=>by cases h; rfl
 | (.inr x,_)::l,ss,h=>by
  obtain ⟨ss',e,rfl⟩:=Option.map_eq_some_iff.mp (show (Kp l).map (x::·)=some ss from h)
  rw [List.map_cons,List.map_cons,VO e]
 | (.inl _,_)::_,ss,h=>by cases h
theorem IsK.keys {K:Frag} {F:Hp}:∀ {kv:List (Key×V)} {ks:List (Key×D)},IsK K F kv ks->kv.map (·.1)=ks.map (·.1)
 | _,_,.nil=>rfl
 | _,_,.cons h t=>by rw [List.map_cons,List.map_cons,IsK.keys t]
theorem KV.keys:∀ {kv:List (Key×V)} {vs:List (Key×Value)},KV kv vs->kv.map (·.1)=vs.map (·.1)
 | _,_,.nil=>rfl
 | _,_,.cons h t=>by rw [List.map_cons,List.map_cons,h.1,KV.keys t]
noncomputable def vG:D->Out D
 | .dct kvs=>(match Kp kvs with
  | some ss=>if ss.length < 64/\(ss.all fun y=>decide (y.length<=sizeLine))=true then .ok (.lst ((kb ss).map D.str)) else .bad
  | none=>.bad)
 | _=>.bad
section
variable {X:Cx} {C:Ct} {own:List Nat} {e:Expr} {fa:Sl->Out (D×Sl)} {ma:Mo} {pos:Pos}
theorem WQ (hc:X.calm=true):gy X C .fr (.builtin "sorted") vG:=by
 intro pins s σ H xs us Q I r h
 obtain ⟨x,F,dx,rfl,sb,tx,po⟩:=h
 obtain ⟨u,rfl,ru⟩:=wZ r
 cases dx with
 | dct kvs=>
  obtain ⟨a,kv,rfl,hH,ik⟩:=tx.dct sb
  cases ru
  cases q:Kp kvs with
  | none=>simp only [vG,q] at po; exact po.elim
  | some ss=>
   simp only [vG,q] at po
   by_cases hl:ss.length < 64/\(ss.all fun y=>decide (y.length<=sizeLine))=true
   ·rw [if_pos hl] at po
    obtain ⟨hz,hsys,vs,rel,dd⟩:=(show ObjOk X.prog X.w H s.heap a (.dK kv) from I.hok a _ hH)
    obtain ⟨ep,da⟩:=dd.dictAt
    have hk:vs.map (·.1)=ss.map Sum.inr:=by rw [<-KV.keys rel,ik.keys,VO q]
    have hlen:vs.length=ss.length:=by have:=congrArg List.length hk; simpa using this
    refine ZQ (kdl_dict (kvs:=vs) (ep:=ep) hsys) (I.ok.hd hc) da (fun acc hi=>YI _ _ (by rw [Array.length_toList,hi.1,hlen]) fun j v e=>?_) hl.1 (by rw [hlen,sizeLine_eq]; omega) fun h1 h' tk us e ss' k1 k2 hp st pm so=>?_
    ·obtain ⟨k,x,e1,e2⟩:=hi.2 j v (by rw [<-Array.getElem?_toList]; exact e)
     have e3:(vs.map (·.1))[j]?=some k:=by rw [List.getElem?_map,e1]; rfl
     rw [hk,List.getElem?_map] at e3
     obtain ⟨y,e4,rfl⟩:=Option.map_eq_some_iff.mp e3
     rcases qX (show xw (Sum.inr y) v=true from e2) with ⟨i,t,e5,_⟩ | ⟨z,t,e5,rfl⟩
     ·cases e5
     ·cases e5
      exact ⟨_,t,e4,rfl⟩
    ·rw [Jl pm so] at st
     have I1:Inv X pins σ H { s with heap:=h1,toks:=tk }:=I.kept (t':=tk) k1
     have hz:(kb ss).length<=sizeLine:=by
      rw [(qQ _).length_eq,sizeLine_eq]
      omega
     have hq:H h1.objs.size=none:=I1.hok.fresh (Nat.le_refl _)
     obtain ⟨s2,c2,f2⟩:=kA (u:=.lst ((kb ss).map V.str)) sb hq
     exact ⟨.ref h1.objs.size,_,I1.laid (t':=tk) (o:=.lst ((kb ss).map V.str)) k2 (Nat.le_refl _) ⟨by rw [List.length_map]; exact hz,us.toList,e,xQ st,by simpa [seqObj] using hp⟩,rfl,po _ _ _ s2 c2 ⟨_,rfl,hq,f2,_,qo,gK fun y hy2=>by
      have:=(qQ _).mem_iff.mp hy2
      exact of_decide_eq_true (List.all_eq_true.mp hl.2 y this)⟩⟩
   ·rw [if_neg hl] at po; exact po.elim
 | _=>exact po.elim
end
end L2.D2
namespace PySem.F
theorem nolen_lri:typeLookup (.type "list_reverseiterator") "__len__"=pure none:=by rw [typeLookup_type,builtinLookup_eq_fast]; kernel_rfl
theorem hint_lri:typeLookup (.type "list_reverseiterator") "__length_hint__"=pure (some (.builtin "list_reverseiterator.__length_hint__")):=by rw [typeLookup_type,builtinLookup_eq_fast]; kernel_rfl
end PySem.F
namespace L2.D2
open PySem PySem.Spec PyProof.Rows PySem.W
section
variable {prog:Program} {w:World} {A:Around} {E:Value->Shared->Prop} {s:Shared} {I l:Addr} {items:Array Value}
theorem WR {R:Result->Shared->Prop} (hh:A.handled=none) (hne:l≠I) (hit:s.heap.IsRevIter I l ((items.size:Int) - 1)) (hl:s.heap.IsList l items) (S:Addr) (hSI:S≠I) (hSl:S≠l) (res:Value) (c₀:Nat) (hS:s.heap.get? S=some { cls:=.type "list",data:=.seq #[] c₀ })
  (hR:∀ h' tk acc' c',(∀ b o,b≠S->b≠I->s.heap.get? b=some o->h'.get? b=some o)->h'.get? S=some { cls:=.type "list",dict:=none,data:=.seq acc' c',slots:=#[] }->ItemsOf (fun i v=>items[items.size - 1 - i]?=some v) acc' items.size->R (.ok (.ret res)) { s with heap:=h',toks:=tk }) (hn:items.size<=sizeLine) :
  wpAny (model prog w) A.in1 (Builtin.List.listExtendWith (.ref S) (.ref I) res)
   (fun fin s'=>match fin with | .done f=>R (.ok f) s' | .again c'=>c'.quiet=true/\codeAny (model prog w) A c' R s') (fun e s'=>R (.error e) s') s:=by
 have W:=Walks.listRev (prog:=prog) (w:=w) (A:=A.in1) hh I l hne items
 have hSf:S∉[I,l]:=by simp only [List.mem_cons,List.not_mem_nil,or_false,not_or]; exact ⟨hSI,hSl⟩
 have st:0<=items.size/\s.heap.IsRevIter I l ((items.size:Int) - 1 - ((0:Nat):Int))/\s.heap.IsList l items:=⟨Nat.zero_le _,by simpa using hit,hl⟩
 unfold Builtin.List.listExtendWith
 refine wpAny_bind (wpAny_typeOf hit.typeIs ?_)
 have h1:Builtin.List.listSameRef (.ref S) (.ref I)=false:=by simp [Builtin.List.listSameRef,hSI]
 rw [if_neg (by rw [h1]; decide)]
 refine wpAny_bind (W.self 0 _ _ _ st ?_)
 refine wpAny_bind (wpAny_holding ?_)
 unfold Builtin.List.listLengthHint
 refine wpAny_bind (wpAny_specialOf hit.typeIs F.nolen_lri ?_)
 show wpAny _ A.in1 (specialOf (Value.ref I) (Str.ofString "__length_hint__") >>= _) _ _ _
 refine wpAny_bind (wpAny_specialOf hit.typeIs F.hint_lri ?_)
 generalize hid:("list_reverseiterator.__length_hint__":String)=id0
 wp_delta
 rw [show splitId id0=some ("list_reverseiterator", "__length_hint__") from by subst hid; decide +kernel]
 subst hid
 refine wpAny_bind (wpAny_isInstance (b:=true) hit.typeIs (by rw [isSubtype_type]; kernel_rfl) ?_)
 refine wpAny_pure ?_
 rw [if_neg (by decide)]
 refine wpAny_pure ⟨plainId_quiet F.plain_extend_loop _,codeAny_extend_loopS W.toS hn S hSf res items.size 0 _ #[] c₀ rfl (Nat.zero_le _) st hS (ItemsOf.nil _) fun s' acc' c' hm hS' hacc=>?_⟩
 rw [Moved.eq_with hm]
 refine hR s'.heap s'.toks acc' c' (fun b o hb hb2 e=>hm.heap b o (fun hmem=>?_) e) hS' hacc
 rcases List.mem_cons.mp hmem with e' | hmem
 ·exact hb e'
 ·exact hb2 (List.mem_singleton.mp hmem)
theorem ZR {Q:Value->Shared->Prop} (hh:A.handled=none) (hne:l≠I) (hit:s.heap.IsRevIter I l ((items.size:Int) - 1)) (hl:s.heap.IsList l items) (hn:items.size<=sizeLine)
  (hQ:∀ h' tk acc' c',(∀ b o,b≠I->s.heap.get? b=some o->h'.get? b=some o)->h'.get? s.heap.objs.size=some { cls:=.type "list",dict:=none,data:=.seq acc' c',slots:=#[] }->ItemsOf (fun i v=>items[items.size - 1 - i]?=some v) acc' items.size->Q (.ref s.heap.objs.size) { s with heap:=h',toks:=tk }) :
  wpAny (model prog w) A (call (.type "list") [.ref I]) Q E s:=by
 refine callType_codes (Q₁:=fun obj s₁=>obj=.ref s.heap.objs.size/\s₁={ s with heap:=s.heap.push { cls:=.type "list",data:=.seq #[] } }) PySem.F.called_list (PySem.F.typeCall_list_1 _) PySem.F.entry_list_init
  (code_list_new _ ⟨rfl,rfl⟩) fun obj s₁ h₁=>?_
 obtain ⟨rfl,rfl⟩:=h₁
 have hS:(s.heap.push { cls:=.type "list",data:=.seq #[] }).get? s.heap.objs.size=some { cls:=.type "list",data:=.seq #[] }:=Heap.get?_push_size _ rfl
 obtain ⟨oI,hoI,_⟩:=id hit
 obtain ⟨ol,hol,_⟩:=id hl
 have hSI:s.heap.objs.size≠I:=Nat.ne_of_gt (Heap.lt_size hoI)
 have hSl:s.heap.objs.size≠l:=Nat.ne_of_gt (Heap.lt_size hol)
 refine ⟨⟨_,hS,rfl⟩,PySem.F.args_list_init_2 _ _,?_⟩
 show wpAny _ _ (do let old <-Builtin.List.listItems (.ref s.heap.objs.size); Builtin.List.listUpdate (.ref s.heap.objs.size) (fun _=>#[]); letGo old.toList.reverse; Builtin.List.listExtendWith (.ref s.heap.objs.size) (.ref I) .none) _ _ _
 refine wpAny_bind ?_
 unfold Builtin.List.listItems
 refine wpAny_bind (wpAny_seqItems hS rfl (wpAny_pure ?_))
 show wpAny _ _ (updateSeq s.heap.objs.size (fun _=>#[]) >>= fun _=>letGo (#[]:Array Value).toList.reverse >>= fun _=>Builtin.List.listExtendWith (.ref s.heap.objs.size) (.ref I) .none) _ _ _
 refine wpAny_bind (wpAny_updateSeq hS rfl ?_)
 have hS₂:=Heap.get?_update_self (Obj.mapSeq (fun _=>(#[]:Array Value))) hS rfl
 have oth:∀ b o,b≠s.heap.objs.size->s.heap.get? b=some o->((s.heap.push { cls:=.type "list",data:=.seq #[] }).update s.heap.objs.size (Obj.mapSeq (fun _=>(#[]:Array Value)))).get? b=some o:=
  fun b o hb e=>(Heap.get?_update_other _ _ (Ne.symm hb)).trans (Heap.get?_push_of_some _ e)
 refine wpAny_bind (wpAny_letGo ?_)
 refine WR (A:=A.in1) hh hne (hit.at fun o e=>oth I o hSI.symm e) (hl.at fun o e=>oth l o hSl.symm e) _ hSI hSl .none _ hS₂ (fun h' tk acc' c' hk hS' hacc=>?_) hn
 exact ⟨rfl,hQ h' tk acc' c' (fun b o hb e=>hk b o (Nat.ne_of_lt (Heap.lt_size e)) hb (oth b o (Nat.ne_of_lt (Heap.lt_size e)) e)) hS' hacc⟩
end
noncomputable def uG:D->Out D
 | .lst xs=>.ok (.lst xs.reverse)
 | _=>.bad
theorem ZS {vs:List V} {its:List Value} {acc:Array Value} (r:Vals vs its) (h:ItemsOf (fun i v=>its.toArray[its.toArray.size - 1 - i]?=some v) acc its.toArray.size):Vals vs.reverse acc.toList:=by
 have e:acc.toList=its.reverse:=by
  apply List.ext_getElem?
  intro j
  have hs:acc.size=its.length:=by simpa using h.1
  by_cases hj:j < its.length
  ·have hv:acc.toList[j]?=some (acc.toList[j]'(by rw [Array.length_toList]; omega)):=List.getElem?_eq_getElem _
   have h2:=h.2 j _ (by rw [<-Array.getElem?_toList]; exact hv)
   rw [hv,List.getElem?_reverse hj,<-h2]
   simp
  ·rw [List.getElem?_eq_none (by rw [Array.length_toList]; omega),List.getElem?_eq_none (by rw [List.length_reverse]; omega)]
 rw [e]
 exact r.reverse
theorem YJ {K:Frag} {F:Hp}:∀ {vs:List V} {ds:List D},IsL K F vs ds->IsL K F vs.reverse ds.reverse
 | _,_,.nil=>.nil
 | _,_,.cons h t=>by
  rw [List.reverse_cons,List.reverse_cons]
  exact (YJ t).append (.cons h .nil)
section
variable {X:Cx} {C:Ct} {own:List Nat} {e:Expr} {fa:Sl->Out (D×Sl)} {ma:Mo} {pos:Pos}
theorem WS {p p2 pos2:Pos} (hK:C.K=X.K) (hc:X.calm=true) (hg:Gl X "list") (hm:X.mg "list"=none) (hv:bootBuiltins "list"=some (.type "list")) (hg2:Gl X "reversed") (hm2:X.mg "reversed"=none) (hv2:bootBuiltins "reversed"=some (.type "reversed")) (ha:PE X e (tE C own ma fa))
  (he:starEach [e] X.env=[(false,eval e X.env)]:=by exact qU rfl) (he2:starEach [.Call (.Name "reversed" p2) [e] [] pos2] X.env=[(false,eval (.Call (.Name "reversed" p2) [e] [] pos2) X.env)]:=by exact qU rfl) :
  PE X (.Call (.Name "list" p) [.Call (.Name "reversed" p2) [e] [] pos2] [] pos) (tE C own .fr (d1 uG fa)):=by
 refine ⟨?_⟩
 intro pins s σ H Q I h
 refine wpAny_Call_Name_kw (xx I hg hm hv ?_ (by decide) (by decide))
 refine PyProof.Rows.callWith_type1 ?_ (by rw [he2]; rfl) rfl
 rw [he2]
 show wpAny _ _ (spliced ((false,eval (.Call (.Name "reversed" p2) [e] [] pos2) X.env)::[])) _ _ s
 refine Calls.spliced_cons ?_
 refine wpAny_Call_Name_kw (xx I hg2 hm2 hv2 ?_ (by decide) (by decide))
 refine PyProof.Rows.callWith_type1 (thn ((qY ha jM he) pos2 pins s σ H _ I (uZ (ma:=ma) h)) fun us s1 ⟨vs,H1,I1,r1,q1⟩=>?_) (by rw [he]; rfl) rfl
 obtain ⟨x,F,dx,rfl,sb,tx,po⟩:=q1
 obtain ⟨u,rfl,ru⟩:=wZ r1
 cases dx with
 | lst ds=>
  obtain ⟨a,vs,rfl,hq,t⟩:=tx.lst sb
  rw [hK] at hq
  cases ru
  obtain ⟨its,rv,pl0,hz⟩:=I1.list hq
  have pl:s1.heap.IsList a its.toArray:=by
   obtain ⟨o,n,ho,hc1,_,hdt⟩:=pl0
   exact ⟨o,ho,hc1,n,hdt⟩
  refine call_reversed_list pl ?_
  refine Calls.spliced_nil ?_
  have hs1:=Heap.get?_push_size (h:=s1.heap) (o:=revObj a ((its.toArray.size:Int) - 1)) 
  have pl2:(s1.heap.push (revObj a ((its.toArray.size:Int) - 1))).IsList a its.toArray:=pl.at fun o eo=>Heap.get?_push_of_some _ eo
  obtain ⟨oa,hoa,_⟩:=id pl
  have hne:a≠s1.heap.objs.size:=Nat.ne_of_lt (Heap.lt_size hoa)
  refine ZR (s:={ s1 with heap:=s1.heap.push (revObj a ((its.toArray.size:Int) - 1)) }) (I.ok.hd hc) hne ⟨_,Heap.get?_push_size _ rfl,rfl,rfl⟩ pl2 (by rw [List.size_toArray,<-rv.length]; exact hz) fun h' tk acc c kp hp hi=>?_
  have kp2:∀ b o,s1.heap.get? b=some o->h'.get? b=some o:=fun b o eo=>kp b o (Nat.ne_of_lt (Heap.lt_size eo)) (Heap.get?_push_of_some _ eo)
  have hsz:(s1.heap.push (revObj a ((its.toArray.size:Int) - 1))).objs.size=s1.heap.objs.size+1:=Heap.size_push ..
  have hq2:H1 (s1.heap.objs.size+1)=none:=I1.hok.fresh (Nat.le_succ _)
  obtain ⟨s2,c2,f2⟩:=kA (u:=.lst vs.reverse) sb hq2
  have hp:h'.get? (s1.heap.objs.size+1)=some { cls:=.type "list",dict:=none,data:=.seq acc c,slots:=#[] }:=by rw [<-hsz]; exact hp
  have goal:EP X pins σ Q (.ref (s1.heap.objs.size+1)) { s1 with heap:=h',toks:=tk }:=
   ⟨.ref (s1.heap.objs.size+1),_,I1.laid (t':=tk) (o:=.lst vs.reverse) kp2 (Nat.le_succ _) ⟨by rw [List.length_reverse]; exact hz,acc.toList,c,ZS rv hi,by simpa using hp⟩,rfl,po _ _ _ s2 c2 ⟨_,rfl,hq2,f2,_,qo,YJ t⟩⟩
  rw [<-hsz] at goal
  exact goal
 | _=>exact po.elim
end
end L2.D2
namespace L2.D2
open PySem PySem.Spec PyProof.Rows
section
variable {prog:Program} {w:World} {A:Around} {E:Value->Shared->Prop} {s:Shared}
theorem WT:typeLookup (.type "list") "keys"=pure none:=by rw [typeLookup_type,builtinLookup_eq_fast]; kernel_rfl
theorem xU {a:Addr} {o:Obj} {xs:Array Value} {k:Nat} {Q:Option Value->Shared->Prop} (hh:A.handled=none) (hx:s.heap.get? a=some o) (hc:o.cls=.type "list") (hdat:o.data=.seq xs k) (hd:o.dict=none)
  (h:∀ h' tk,(∀ b ob,s.heap.get? b=some ob->h'.get? b=some ob)->Q none { s with heap:=h',toks:=tk }):wpAny (model prog w) A (getAttr? (.ref a) "keys") Q E s:=by
 obtain ⟨c,dct,dat,sl⟩:=o
 simp only at hc hdat hd
 subst hc hdat hd
 obtain ⟨hp,g,d,tk,os⟩:=s
 have hT:∀ tk',(⟨hp,g,d,tk',os⟩:Shared).TypeIs (.ref a) "list":=fun _=>⟨_,hx,rfl⟩
 have f1:=sub_AttributeError
 have f3:=F.slot_list_getattribute.lookup
 have f4:=F.slot_list_getattribute.bind (.ref a)
 have f5:=am_list_getattr_none
 have f6:=WT
 have hnm:(["__module__", "__name__", "__qualname__", "__doc__", "__annotations__"]:List Str).contains ("keys":Str)=false:=by decide +kernel
 have hsz:("keys":Str).length+100<=sizeLine:=by rw [sizeLine_eq]; decide +kernel
 unfold getAttr? getAttrBy?
 refine wpAny_bind (wpAny_mkText (wpAny_bind (wpAny_attempt ?_)))
 unfold getAttrBy
 repeat (any_goals (first | assumption | exact hT _ | ((with_reducible show wpAny _ _ (call (Value.builtin "list.__getattribute__") _ _) _ _ _); refine call_meets F.slot_list_getattribute (hT _) am_entry_list_getattribute (F.args_list_getattribute_2 _ _) (meets_getattribute_miss_list a xs k sl "keys" _ f6 hnm hsz) ⟨hx,hh,fun h' tk' e hx'=>?_⟩) | wp_step))
 obtain ⟨t',u',he⟩:=hx'.there
 show wpAny _ _ (getattributeRaised _ _ _ _ _ _ _) _ _ _
 unfold getattributeRaised
 repeat (any_goals (first | assumption | wp_step))
 exact h h' tk' hx'.keeps
theorem YK {R:Result->Shared->Prop} {d it t:Addr} {items:Array Value} (hh:A.in1.handled=none) (hdt:d≠t) (hdi:d≠it) (hti:t≠it):∀ (n i:Nat) (s:Shared) (kvs:List (Key×Value)) (ps:List (Key×Value×Value)),items.size - i=n->i<=items.size ->
  s.heap.IsListIter it t i->s.heap.IsList t items->s.heap.DictOf (qS prog w) d kvs->ps.length=n->(∀ j p,ps[j]?=some p->∃ v,items[i+j]?=some v/\xw p.1 p.2.1=true/\Yh s.heap v p.2.1 p.2.2)->kvs.length+n<=sizeLine ->
  (∀ h' tk,h'.DictOf (qS prog w) d (ps.foldl (fun l p=>stored l p.1 p.2.2) kvs)->(∀ b o,b≠d->b≠it->s.heap.get? b=some o->h'.get? b=some o)->R (.ok (.ret .none)) { s with heap:=h',toks:=tk }) ->
  codeAny (model prog w) A (.builtin "dict.update.loop" ⟨[.ref d,.ref it,rawInt i,.none],[]⟩) R s:=by
 intro n
 induction n with
 | zero=>
  intro i s kvs ps hn hi st ht hd hl hp hz hR
  have e:ps=[]:=List.length_eq_zero_iff.mp hl
  subst e
  refine codeAny_builtin yH ?_
  rw [Around.under_plainId jV _]
  show wpAny _ A.in1 (pyNext (.ref it) >>= _) _ _ s
  refine wpAny_bind (wpAny_pyNext_list_end hh st ht (by simp; omega) fun h' eb=>?_)
  show wpAny _ A.in1 (ret Value.none) _ _ _
  refine wpAny_pure (hR h' s.toks ?_ fun b o _ h2 e=>eb b o h2 e)
  obtain ⟨o,es,ep,ho,r⟩:=hd
  exact ⟨o,es,ep,eb d o hdi ho,r⟩
 | succ n ih=>
  intro i s kvs ps hn hi st ht hd hl hp hz hR
  cases ps with
  | nil=>simp at hl
  | cons p ps=>
   obtain ⟨v,hv,hk,q,oq,nq,rfl,hq,hqc,hqd⟩:=hp 0 p rfl
   obtain ⟨od,es,ep,hod,hdx,hrest⟩:=id hd
   have nqd:q≠d:=fun z=>by
    subst z
    rw [hq] at hod; cases hod
    rw [hrest.1] at hqd; cases hqd
   obtain ⟨oi,hoi,hic,hid⟩:=id st
   have nqi:q≠it:=fun z=>by
    subst z
    rw [hq] at hoi; cases hoi
    rw [hid] at hqd; cases hqd
   refine codeAny_builtin yH ?_
   rw [Around.under_plainId jV _]
   show wpAny _ A.in1 (pyNext (.ref it) >>= _) _ _ s
   refine wpAny_bind (wpAny_pyNext_list_item st ht (x:=.ref q) (by simpa using hv) fun h' st' sb=>?_)
   have hq':h'.get? q=some oq:=(sb.2 q nqi).trans hq
   have hTq:Shared.TypeIs { s with heap:=h' } (.ref q) "tuple":=⟨oq,hq',hqc⟩
   have hd':h'.DictOf (qS prog w) d kvs:=by
    obtain ⟨o,es,ep,ho,r⟩:=hd
    exact ⟨o,es,ep,(sb.2 d hdi).trans ho,r⟩
   have ht':h'.IsList t items:=by
    obtain ⟨o,ho,r⟩:=ht
    exact ⟨o,(sb.2 t hti).trans ho,r⟩
   dsimp only
   refine wpAny_bind (wpAny_holding (wpAny_bind ?_))
   refine wpAny_tryCatch ?_
   unfold Builtin.Dict.pairItems
   refine wpAny_bind (wpAny_typeOf hTq ?_)
   rw [if_pos (by decide)]
   refine wpAny_bind (wpAny_seqItems hq' hqd (wpAny_pure ?_))
   show wpAny _ A.in1 (holding [p.2.1,p.2.2] (dictSet d p.2.1 p.2.2)) _ _ _
   refine wpAny_holding (wpAny_dictSet_pairs (knd:=qS prog w) hk hd' (fun h2 hd2 sb2=>?_) (by omega))
   have keep:∀ b o,b≠d->b≠it->s.heap.get? b=some o->h2.get? b=some o:=fun b o n1 n2 e=>(sb2.2 b n1).trans ((sb.2 b n2).trans e)
   have hlen:(stored kvs p.1 p.2.2).length<=kvs.length+1:=by
    unfold stored
    split <;> simp
   refine wpAny_pure ⟨plainId_quiet jV _,?_⟩
   have ec:rawInt ((i:Int)+1)=rawInt ((i+1:Nat):Int):=by push_cast; rfl
   rw [ec]
   refine ih (i+1) _ (stored kvs p.1 p.2.2) ps (by omega) (by omega) ?_ ?_ hd2 (by simpa using hl) (fun j p' e=>?_) (by omega) fun h3 tk hd3 k3=>?_
   ·obtain ⟨o,e,r⟩:=st'
    exact ⟨o,(sb2.2 it (Ne.symm hdi)).trans e,r⟩
   ·obtain ⟨o,e,r⟩:=ht'
    exact ⟨o,(sb2.2 t (Ne.symm hdt)).trans e,r⟩
   ·obtain ⟨v',hv',hk',q',oq',nq',rfl,hq2,hqc2,hqd2⟩:=hp (j+1) p' (by simpa using e)
    refine ⟨.ref q',by rw [show i+1+j=i+(j+1) by omega]; exact hv',hk',q',oq',nq',rfl,keep q' oq' (fun z=>?_) (fun z=>?_) hq2,hqc2,hqd2⟩
    ·subst z
     rw [hq2] at hod; cases hod
     rw [hrest.1] at hqd2; cases hqd2
    ·subst z
     rw [hq2] at hoi; cases hoi
     rw [hid] at hqd2; cases hqd2
   ·exact hR h3 tk hd3 fun b o n1 n2 e=>k3 b o n1 n2 (keep b o n1 n2 e)
theorem yV {t:Addr} {items:Array Value} {ps:List (Key×Value×Value)} {Q:Value->Shared->Prop} (hh:A.handled=none) {ot:Obj} {nt:Nat} (hot:s.heap.get? t=some ot) (hotc:ot.cls=.type "list") (hotd:ot.dict=none) (hots:ot.data=.seq items nt)
  (hl:ps.length=items.size) (hp:∀ (j:Nat) (p:Key×Value×Value),ps[j]?=some p->∃ v,items[j]?=some v/\xw p.1 p.2.1=true/\Yh s.heap v p.2.1 p.2.2) (hz:items.size<=sizeLine)
  (h:∀ h' tk,h'.DictOf (qS prog w) s.heap.objs.size (ps.foldl (fun l p=>stored l p.1 p.2.2) [])->(∀ b o,s.heap.get? b=some o->h'.get? b=some o)->Q (.ref s.heap.objs.size) { s with heap:=h',toks:=tk }) :
  wpAny (model prog w) A (call (.type "dict") [.ref t]) Q E s:=by
 refine callType_codes (Q₁:=fun obj s₁=>obj=.ref s.heap.objs.size/\s₁={ s with heap:=s.heap.push { cls:=.type "dict",data:=.dict #[] } }) F.kt_called_dict (F.kt_typeCall_dict_1 _) F.entry_dict_init (kt_code_dict_new _ ⟨rfl,rfl⟩) ?_
 rintro obj s₁ ⟨rfl,rfl⟩
 have hnew:(s.heap.push { cls:=.type "dict",data:=.dict #[] }).DictOf (qS prog w) s.heap.objs.size []:=Heap.DictOf.new s.heap
 refine ⟨hnew.typeIs,F.args_dict_init_2 _ _,?_⟩
 unfold Builtin.«dict.__init__»
 refine wpAny_bind ?_
 unfold Builtin.Dict.selfAndRest
 refine wpAny_bind (wpAny_notOrdered_dict hnew.typeIs ?_)
 show wpAny _ _ (pure (s.heap.objs.size,[Value.ref t])) _ _ _
 refine wpAny_pure ?_
 show wpAny _ _ (Builtin.Dict.updateFrom "dict.__init__" s.heap.objs.size (.ref t) [] .none) _ _ _
 unfold Builtin.Dict.updateFrom
 have hot':(s.heap.push { cls:=.type "dict",data:=.dict #[] }).get? t=some ot:=Heap.get?_push_of_some _ hot
 have hlt:t < s.heap.objs.size:=Heap.lt_size hot
 refine wpAny_bind (wpAny_typeOf (T := "list") ⟨ot,hot',hotc⟩ ?_)
 rw [if_pos (by decide)]
 refine wpAny_bind (xU (by exact hh) hot' hotc hots hotd fun h1 tk1 k1=>?_)
 rw [if_pos (show (none:Option Value).isNone=true from rfl)]
 refine wpAny_bind (wpAny_rule ?_)
 have ht1:h1.get? t=some ot:=k1 _ _ hot'
 have hd1:h1.DictOf (qS prog w) s.heap.objs.size []:=by
  obtain ⟨o,es,ep,ho,r⟩:=hnew
  exact ⟨o,es,ep,k1 _ _ ho,r⟩
 have htup:h1.IsList t items:=⟨ot,ht1,hotc,nt,hots⟩
 refine wpAny_bind (wpAny_pyIter_list (s:={ s with heap:=h1,toks:=tk1 }) htup ?_)
 have hs1:s.heap.objs.size < h1.objs.size:=let ⟨o,es,ep,ho,r⟩:=hd1; Heap.lt_size ho
 have up:∀ b o,s.heap.get? b=some o->(h1.push { cls:=.type "list_iterator",data:=.fields #[.ref t,.int 0 0] }).get? b=some o:=fun b o e=>Heap.get?_push_of_some _ (k1 _ _ (Heap.get?_push_of_some _ e))
 refine wpAny_pure ⟨plainId_quiet jV _,?_⟩
 refine YK (items:=items) (t:=t) (A:=A.in1) (show A.in1.in1.handled=none from hh) (Nat.ne_of_gt hlt) (Nat.ne_of_lt hs1) (Nat.ne_of_lt (Nat.lt_trans hlt hs1)) items.size 0 _ [] ps (by omega) (Nat.zero_le _) ⟨_,Heap.get?_push_size _ rfl,rfl,rfl⟩ ?_ ?_ hl (fun j p e=>?_) (by simpa using hz) fun h2 tk2 hd2 k2=>⟨rfl,h h2 tk2 hd2 fun b o e=>?_⟩
 ·exact ⟨ot,Heap.get?_push_of_some _ ht1,hotc,nt,hots⟩
 ·obtain ⟨o,es,ep,ho,r⟩:=hd1
  exact ⟨o,es,ep,Heap.get?_push_of_some _ ho,r⟩
 ·obtain ⟨v,hv,hk,q,oq,nq,rfl,hq,r⟩:=hp j p e
  exact ⟨.ref q,by simpa using hv,hk,q,oq,nq,rfl,up q oq hq,r⟩
 ·have hb:=Heap.lt_size e
  exact k2 b o (Nat.ne_of_lt hb) (Nat.ne_of_lt (Nat.lt_trans hb hs1)) (up b o e)
end
noncomputable def Jp:D->Out D
 | .lst ds=>match yI ds with
  | some ps=>.ok (.dct (ps.foldl (fun l p=>Kf l p.1 p.2) []))
  | none=>.bad
 | _=>.bad
section
variable {X:Cx} {C:Ct} {pins:List (Addr×Obj)} {σ:St} {F H:Hp} {s:Shared}
theorem ZT (hK:C.K=X.K) (hc:X.calm=true):gy X C .fr (.type "dict") Jp:=by
 intro pins s σ H xs us Q I r h
 obtain ⟨x,F,dx,rfl,sb,tx,po⟩:=h
 cases dx <;> try exact po.elim
 rename_i ds
 unfold Jp at po
 cases q:yI ds with
 | none=>simp only [q] at po; exact po.elim
 | some ps=>
  simp only [q] at po
  obtain ⟨a,vs,rfl,hq,t⟩:=tx.lst sb
  obtain ⟨u,rfl,ru⟩:=wZ r
  cases ru
  have hq':SqL X.K H a vs:=by rw [<-hK]; exact hq
  obtain ⟨its,rv,⟨o,n,ho,hcl,hdn,hd⟩,hz⟩:=I.list hq'
  obtain ⟨pv,tr,h1,h2,h3,h3',h4⟩:=VH hK I sb t rv q
  have hlen:=rv.length
  refine yV (ps:=tr) (I.ok.hd hc) ho hcl hdn hd (by simp [h3]) (fun j p e=>?_) (by simp; omega) fun h' tk hd' kp=>?_
  ·obtain ⟨v,e1,e2⟩:=h4 j p e
   exact ⟨v,by simpa using e1,e2⟩
  ·have hp:H s.heap.objs.size=none:=I.hok.fresh (Nat.le_refl _)
   obtain ⟨s2,c2,hF⟩:=kA (u:=.dK (pv.foldl (fun l p=>zE l p.1 p.2) [])) sb hp
   have hl:(pv.foldl (fun l p=>zE l p.1 p.2) ([]:List (Key×V))).length<=sizeLine:=by
    have:=@VG pv []
    simp at this
    omega
   have hsys:(s.heap.objs.size == sysModules)=false:=beq_eq_false_iff_ne.mpr (Nat.ne_of_gt I.big)
   refine ⟨.ref s.heap.objs.size,_,I.laid (o:=.dK (pv.foldl (fun l p=>zE l p.1 p.2) [])) (t':=tk) kp (Nat.le_refl _) (GN hl hsys (Yi h2 .nil) hd'),rfl,po _ F _ s2 c2 ⟨_,rfl,hp,hF,_,qo,VF h1 .nil⟩⟩
end
open PySem.SeqAt
open AutoSeq1 (wpAny_loadPart')
open MeetsSeq MeetsSeq2 MeetsSeq3
def RcLtAt (A:Around) (s:Shared) (y x:Value) (b:Bool):Prop:=
 ∀ (prog:Program) (w:World) (E:Value->Shared->Prop) (Q:Value->Shared->Prop),Q (.bool b) s->wpAny (model prog w) A (richCompare .Lt y x) Q E s
def LtL (A:Around) (s:Shared) (k b:Bool):List (Value×Value)->Prop
 | []=>b=k
 | (y,x)::t=>(EqAt A.in1 s y x true/\LtL A s k b t)\/(EqAt A.in1 s y x false/\RcLtAt A.in1 s y x b)
theorem WU (l b:Addr) (items items2:Array Value) (n n2:Nat) (dd dd2:Option Addr) (sl sl2:Array (Option Value)) (c:Bool) :
  Meets (Builtin.«tuple.__lt__» ⟨[.ref l,.ref b],[]⟩)
   (fun A R s=>s.heap.get? l=some { cls:=.type "tuple",dict:=dd,data:=.seq items n,slots:=sl }/\s.heap.get? b=some { cls:=.type "tuple",dict:=dd2,data:=.seq items2 n2,slots:=sl2 } /\
    LtL A s (decide (items.size < items2.size)) c (items.toList.zip items2.toList)/\R (.ok (.ret (.bool c))) s):=
 .of_wp fun prog w A R s h=>by
  obtain ⟨hp,g,d,tk,os⟩:=s; obtain ⟨hl,hb,he,h⟩:=h
  have f2:=AutoSeq1.sub_tuple_tuple
  wp_walk using wpAny_loadPart' hl,wpAny_loadPart' hb,wpAny_forIn_list _ (fun rest b s'=>b.1=none/\s'=⟨hp,g,d,tk,os⟩/\LtL A ⟨hp,g,d,tk,os⟩ (decide (items.size < items2.size)) c rest) _
  case turn=>
   rintro ⟨y,x⟩ rest b s' ⟨hb',rfl,hz⟩
   rcases hz with ⟨e1,hz⟩ | ⟨e1,hz⟩
   ·refine wpAny_bind (e1 prog w _ _ ?_)
    wp_walk
    exact ⟨rfl,rfl,hz⟩
   ·refine wpAny_bind (e1 prog w _ _ ?_)
    refine wpAny_bind (wpAny_rule (wpAny_bind (hz prog w _ _ ?_)))
    wp_walk
    exact ⟨_,rfl,h⟩
  case fin=>
   rintro ⟨b1,b2⟩ s' ⟨hb',rfl,hz⟩
   simp only at hb'
   subst hb'
   have hz:c=_:=hz
   subst hz
   wp_walk
   exact ⟨_,rfl,by simpa [Builtin.Tuple.tupleCompareSizes] using h⟩
  case h=>
   exact ⟨rfl,rfl,he⟩
theorem RcLtAt.tuples {A:Around} {s:Shared} {l b:Addr} {items items2:Array Value} {c:Bool} (hl:s.heap.IsTuple l items) (hb:s.heap.IsTuple b items2) (hu:A.units < cLine)
  (he:LtL A s (decide (items.size < items2.size)) c (items.toList.zip items2.toList)):RcLtAt A s (.ref l) (.ref b) c:=fun prog w E Q h=>by
 obtain ⟨⟨cls,dd,data,sl⟩,ho,hc,n,hd⟩:=id hl
 obtain ⟨⟨cls2,dd2,data2,sl2⟩,ho2,hc2,n2,hd2⟩:=id hb
 simp only at hc hd hc2 hd2
 subst hc hd hc2 hd2
 exact richCompare_meets_room (op:=.Lt) ⟨_,ho,rfl⟩ ⟨_,ho2,rfl⟩ F.slot_tuple_lt F.entry_tuple_lt (F.args_tuple_lt_2 _ _) (WU l b items items2 n n2 dd dd2 sl sl2 c)
  ⟨ho,ho2,he,show Value.bool c≠Value.notImplemented/\Q (.bool c) s from ⟨(fun x=>nomatch x),h⟩⟩ hu
end L2.D2
set_option maxHeartbeats 4000000
namespace Kx
open PySem PySem.Spec PyProof.Rows L2 L2.D2
noncomputable def top (i:Nat):Stmt:=PySem.Challenge.pw_lookwords_k19_whole_mirrored.main.body.getD i (.Pass ⟨0,0,0,0⟩)
noncomputable def CS:List Str:=["NoWords", "NoLook", "NoNumbers", "NoRoom"]
noncomputable def FS:List Str:=[]
structure Zt (K:Frag) (mg:Str->Option Value) (cv:Str->Value) (ca:Str->Addr):Prop where
 xs:Xs K cv ca CS "WordError"
 mref:∀ c∈CS,mg c=some (.ref (ca c))
 xin:∀ c∈CS,PySem.W.excIn K (ca c) bmV "ValueError.__new__"=true
 fref:∀ x∈FS,mg x=some (.ref (ca x))
 z_all:mg "all"=none
 z_bool:mg "bool"=none
 z_dict:mg "dict"=none
 z_enumerate:mg "enumerate"=none
 z_int:mg "int"=none
 z_isinstance:mg "isinstance"=none
 z_len:mg "len"=none
 z_list:mg "list"=none
 z_max:mg "max"=none
 z_min:mg "min"=none
 z_range:mg "range"=none
 z_reversed:mg "reversed"=none
 z_set:mg "set"=none
 z_sorted:mg "sorted"=none
 z_str:mg "str"=none
 z_tuple:mg "tuple"=none
 c_LEAST_PLACE:∃ t,mg "LEAST_PLACE"=some (.int (-3) t)
 c_MOST_LETTERS:∃ t,mg "MOST_LETTERS"=some (.int 6 t)
 c_MOST_PLACE:∃ t,mg "MOST_PLACE"=some (.int 2 t)
 c_MOST_ROOM:∃ t,mg "MOST_ROOM"=some (.int 99 t)
 c_MOST_WORDS:∃ t,mg "MOST_WORDS"=some (.int 6 t)
theorem VP:bootBuiltins "all"=some (.builtin "all"):=by decide +kernel
theorem qbl:bootBuiltins "bool"=some (.type "bool"):=by decide +kernel
theorem qbm:bootBuiltins "dict"=some (.type "dict"):=by decide +kernel
theorem qc8:bootBuiltins "int"=some (.type "int"):=by decide +kernel
theorem jg:bootBuiltins "isinstance"=some (.builtin "isinstance"):=by decide +kernel
theorem jr:bootBuiltins "len"=some (.builtin "len"):=by decide +kernel
theorem xV:bootBuiltins "list"=some (.type "list"):=by decide +kernel
theorem qc9:bootBuiltins "max"=some (.builtin "max"):=by decide +kernel
theorem qda:bootBuiltins "min"=some (.builtin "min"):=by decide +kernel
theorem ZU:bootBuiltins "range"=some (.type "range"):=by decide +kernel
theorem Kq:bootBuiltins "reversed"=some (.type "reversed"):=by decide +kernel
theorem YL:bootBuiltins "set"=some (.type "set"):=by decide +kernel
theorem xW:bootBuiltins "sorted"=some (.builtin "sorted"):=by decide +kernel
theorem GT:bootBuiltins "str"=some (.type "str"):=by decide +kernel
theorem kO:bootBuiltins "tuple"=some (.type "tuple"):=by decide +kernel
instance {α:Type}:Inhabited (Out α):=⟨.bad⟩
section
variable {P:Program} {w:World} {K:Frag} {mg:Str->Option Value} {base:Heap} {cv:Str->Value} {ca:Str->Addr}
abbrev vH:Stmt:=top 13
abbrev xX:List Str:=["thing"]
theorem Jq:FnScope xX ["thing"] (qf vH):=⟨rfl,rfl,rfl,by decide +kernel,rfl,by decide +kernel,by decide +kernel⟩
noncomputable def kD:Sl->Out (Fl×Sl):=(jE (Kb (d1 (zF "str") (qe 0)) (Kb (d2 eqD (d1 ka (qe 0)) (dC (.int 1))) (uu leD leD (dC (.str "a")) (qe 0) (dC (.str "z"))))))
noncomputable abbrev vI:List D->Out (D×List D):=ke xX [.val] (kD)
abbrev yL P w K mg base cv:=DefOk P w K mg base cv 1 "is_letter" ["thing"] [.val] .sh (vI)
theorem Jr (Z:Zt K mg cv ca) (T:qV K mg "is_letter" vH ["thing"]):yL P w K mg base cv:=
 qI (k:=0) (own':=[]) (fb:=kD) T Jq fun cdv f A outer s H E hr=>(qm (qp (Vq (xH rfl rfl Z.z_isinstance jg rfl Z.z_str GT (vr 0)) (Vq (ut (we rfl hr.units) (qH (jx rfl) rfl Z.z_len jr (vr 0)) qr) (Vp (Vs QS QS xA (vr 0) xA))))))
abbrev vt:Stmt:=top 14
abbrev xY:List Str:=["thing"]
theorem WV:FnScope xY ["thing"] (qf vt):=⟨rfl,rfl,rfl,by decide +kernel,rfl,by decide +kernel,by decide +kernel⟩
noncomputable def xZ:Sl->Out (Fl×Sl):=(qR (sIf (dOr (WB (xD (d1 (zF "str") (qe 0)))) (WB (qN (uu leD leD (dC (.int 1)) (d1 ka (qe 0)) (dC (.int 6)))))) (jE (dC (.bl false))) ji)
  (jE (d1 Zw (jn [] 1 [] (vj (qe 0)) (gNm 0) ftT (qt [.vl] vI (qd (qe 0) qC))))))
noncomputable abbrev uH:List D->Out (D×List D):=ke xY [.val] (xZ)
abbrev gc P w K mg base cv:=DefOk P w K mg base cv 2 "is_word" ["thing"] [.val] .sh (uH)
theorem WW (Z:Zt K mg cv ca) (T:qV K mg "is_word" vt ["thing"]) (ok_is_letter:yL P w K mg base cv):gc P w K mg base cv:=
 qI (k:=1) (own':=[]) (fb:=xZ) T WV fun cdv f A outer s H E hr=>(qh (jk (PW.pt (wU (kx (jz rfl (xH rfl rfl Z.z_isinstance jg rfl Z.z_str GT (vr 0)) (fun _=>rfl))) (ky (kx (QR QS QS qr (qH (jx rfl) rfl Z.z_len jr (vr 0)) (uB Z.c_MOST_LETTERS rfl)))))) (qm (qp gt)) qP)
  (qm (qp (qH (VA rfl rfl) rfl Z.z_all VP (jI (N:=["sign"]) (nt:=1) (cap:=[]) rfl (vZ (names:=(qf vt).names) rfl (by decide +kernel)) (jP (names:=(qf vt).names) (N:=xY) rfl rfl (by decide +kernel)) (qZ rfl (vr 0)) (fun fp L s1 H1=>(qu (i:=0) (show List.Nodup (["sign"]:List Str) from by decide +kernel) rfl (Or.inl rfl))) (fun fp L s1 H1=>jm) (fun fp L s1 H1=>(ql ok_is_letter hr (by decide) yd rfl (qc (vr 0) qg))))))))
abbrev kt:Stmt:=top 15
abbrev yg:List Str:=["thing"]
theorem Kr:FnScope yg ["thing"] (qf kt):=⟨rfl,rfl,rfl,by decide +kernel,rfl,by decide +kernel,by decide +kernel⟩
noncomputable def yh:Sl->Out (Fl×Sl):=(qR (sIf (dOr (WB (xD (d1 (zF "tuple") (qe 0)))) (WB (qN (uu leD leD (dC (.int 1)) (d1 ka (qe 0)) (dC (.int 6)))))) (jE (dC (.bl false))) ji)
  (jE (Kb (d1 Zw (jn [] 1 [] (vj (qe 0)) (gNm 0) ftT (qt [.vl] uH (qd (qe 0) qC)))) (d2 eqD (d1 gJ (qe 0)) (d1 ka (qe 0))))))
noncomputable abbrev yi:List D->Out (D×List D):=ke yg [.val] (yh)
abbrev za P w K mg base cv:=DefOk P w K mg base cv 3 "is_words" ["thing"] [.val] .sh (yi)
theorem Ks (Z:Zt K mg cv ca) (T:qV K mg "is_words" kt ["thing"]) (ok_is_word:gc P w K mg base cv):za P w K mg base cv:=
 qI (k:=2) (own':=[]) (fb:=yh) T Kr fun cdv f A outer s H E hr=>(qh (jk (PW.pt (wU (kx (jz rfl (xH rfl rfl Z.z_isinstance jg rfl Z.z_tuple kO (vr 0)) (fun _=>rfl))) (ky (kx (QR QS QS qr (qH (jx rfl) rfl Z.z_len jr (vr 0)) (uB Z.c_MOST_WORDS rfl)))))) (qm (qp gt)) qP)
  (qm (qp (Vq (qH (VA rfl rfl) rfl Z.z_all VP (jI (N:=["part"]) (nt:=1) (cap:=[]) rfl (vZ (names:=(qf kt).names) rfl (by decide +kernel)) (jP (names:=(qf kt).names) (N:=yg) rfl rfl (by decide +kernel)) (qZ rfl (vr 0)) (fun fp L s1 H1=>(qu (i:=0) (show List.Nodup (["part"]:List Str) from by decide +kernel) rfl (Or.inl rfl))) (fun fp L s1 H1=>jm) (fun fp L s1 H1=>(ql ok_is_word hr (by decide) yd rfl (qc (vr 0) qg))))) (Vp (ut (we rfl hr.units) (Yw rfl rfl rfl Z.z_len jr rfl Z.z_set YL (vr 0)) (qH (jx rfl) rfl Z.z_len jr (vr 0))))))))
abbrev kj:Stmt:=top 18
abbrev uI:List Str:=["thing"]
theorem zL:FnScope uI ["thing"] (qf kj):=⟨rfl,rfl,rfl,by decide +kernel,rfl,by decide +kernel,by decide +kernel⟩
noncomputable def vJ:Sl->Out (Fl×Sl):=(sIf (WB (xD (qt [.vl] yi (qd (qe 0) qC)))) (yb "NoWords" (qd (dC (.str "words are a tuple of 1 to 6 unlike words of 1 to 6 letters from a to z")) qC)) ji)
noncomputable abbrev kl:List D->Out (D×List D):=ke uI [.val] (vJ)
abbrev vg P w K mg base cv:=DefOk P w K mg base cv 4 "check_words" ["thing"] [.val] .sh (kl)
theorem zM (Z:Zt K mg cv ca) (T:qV K mg "check_words" kj ["thing"]) (ok_is_words:za P w K mg base cv):vg P w K mg base cv:=
 qI (k:=3) (own':=[]) (fb:=vJ) T zL fun cdv f A outer s H E hr=>(qm (jk (kx (jz rfl (ql ok_is_words hr (by decide) qJ rfl (qc (vr 0) qg)) (fun _=>rfl))) (qm (uA rfl (VE rfl) rfl rfl (Z.mref "NoWords" (by decide +kernel)) (Z.xs.val "NoWords" (by decide +kernel)) (Z.xin "NoWords" (by decide +kernel)) (qc xA qg))) qP))
abbrev kP:Stmt:=top 12
abbrev yM:List Str:=["thing", "least", "most"]
theorem gO:FnScope yM ["thing", "least", "most"] (qf kP):=⟨rfl,rfl,rfl,by decide +kernel,rfl,by decide +kernel,by decide +kernel⟩
noncomputable def kQ:Sl->Out (Fl×Sl):=(qR (sIf (dOr (WB (xD (d1 (zF "int") (qe 0)))) (xD (d1 (zF "bool") (qe 0)))) (jE (dC (.bl false))) ji)
  (jE (uu leD leD (qe 1) (qe 0) (qe 2))))
noncomputable abbrev jo:List D->Out (D×List D):=ke yM [.val,.val,.val] (kQ)
abbrev km P w K mg base cv:=DefOk P w K mg base cv 1 "is_between" ["thing", "least", "most"] [.val,.val,.val] .sh (jo)
theorem gP (Z:Zt K mg cv ca) (T:qV K mg "is_between" kP ["thing", "least", "most"]):km P w K mg base cv:=
 qI (k:=0) (own':=[]) (fb:=kQ) T gO fun cdv f A outer s H E hr=>(qh (jk (PW.pt (wU (kx (jz rfl (xH rfl rfl Z.z_isinstance jg rfl Z.z_int qc8 (vr 0)) (fun _=>rfl))) (ky (jz rfl (xH rfl rfl Z.z_isinstance jg rfl Z.z_bool qbl (vr 0)) (fun _=>rfl))))) (qm (qp gt)) qP)
  (qm (qp (Vs QS QS (vr 1) (vr 0) (vr 2)))))
abbrev vw:Stmt:=top 16
abbrev zb:List Str:=["thing"]
theorem WX:FnScope zb ["thing"] (qf vw):=⟨rfl,rfl,rfl,by decide +kernel,rfl,by decide +kernel,by decide +kernel⟩
noncomputable def zc:Sl->Out (Fl×Sl):=(qR (sIf (dOr (WB (xD (d1 (zF "tuple") (qe 0)))) (qN (d2 neD (d1 ka (qe 0)) (dC (.int 2))))) (jE (dC (.bl false))) ji)
  (jE (d1 Zw (jn [] 1 [] (vj (qe 0)) (gNm 0) ftT (qt [.vl,.vl,.vl] jo (qd (qe 0) (qd (dC (.int (-3))) (qd (dC (.int 2)) qC))))))))
noncomputable abbrev zd:List D->Out (D×List D):=ke zb [.val] (zc)
abbrev ge P w K mg base cv:=DefOk P w K mg base cv 2 "is_look" ["thing"] [.val] .sh (zd)
theorem WY (Z:Zt K mg cv ca) (T:qV K mg "is_look" vw ["thing"]) (ok_is_between:km P w K mg base cv):ge P w K mg base cv:=
 qI (k:=1) (own':=[]) (fb:=zc) T WX fun cdv f A outer s H E hr=>(qh (jk (PW.pt (wU (kx (jz rfl (xH rfl rfl Z.z_isinstance jg rfl Z.z_tuple kO (vr 0)) (fun _=>rfl))) (ky (qL (xC rfl hr.units) (qH (jx rfl) rfl Z.z_len jr (vr 0)) qr)))) (qm (qp gt)) qP)
  (qm (qp (qH (VA rfl rfl) rfl Z.z_all VP (jI (N:=["place"]) (nt:=1) (cap:=[]) rfl (vZ (names:=(qf vw).names) rfl (by decide +kernel)) (jP (names:=(qf vw).names) (N:=zb) rfl rfl (by decide +kernel)) (qZ rfl (vr 0)) (fun fp L s1 H1=>(qu (i:=0) (show List.Nodup (["place"]:List Str) from by decide +kernel) rfl (Or.inl rfl))) (fun fp L s1 H1=>jm) (fun fp L s1 H1=>(ql ok_is_between hr (by decide) yd rfl (qc (vr 0) (qc (uB Z.c_LEAST_PLACE rfl) (qc (uB Z.c_MOST_PLACE rfl) qg))))))))))
abbrev kR:Stmt:=top 19
abbrev yN:List Str:=["thing"]
theorem gQ:FnScope yN ["thing"] (qf kR):=⟨rfl,rfl,rfl,by decide +kernel,rfl,by decide +kernel,by decide +kernel⟩
noncomputable def wj:Sl->Out (Fl×Sl):=(sIf (WB (xD (qt [.vl] zd (qd (qe 0) qC)))) (yb "NoLook" (qd (dC (.str "a look is a tuple of two places from -3 to 2")) qC)) ji)
noncomputable abbrev kS:List D->Out (D×List D):=ke yN [.val] (wj)
abbrev vK P w K mg base cv:=DefOk P w K mg base cv 3 "check_look" ["thing"] [.val] .sh (kS)
theorem gR (Z:Zt K mg cv ca) (T:qV K mg "check_look" kR ["thing"]) (ok_is_look:ge P w K mg base cv):vK P w K mg base cv:=
 qI (k:=2) (own':=[]) (fb:=wj) T gQ fun cdv f A outer s H E hr=>(qm (jk (kx (jz rfl (ql ok_is_look hr (by decide) qJ rfl (qc (vr 0) qg)) (fun _=>rfl))) (qm (uA rfl (VE rfl) rfl rfl (Z.mref "NoLook" (by decide +kernel)) (Z.xs.val "NoLook" (by decide +kernel)) (Z.xin "NoLook" (by decide +kernel)) (qc xA qg))) qP))
abbrev vL:Stmt:=top 23
abbrev ze:List Str:=["word", "place", "at"]
theorem sc_letter_at:FnScope ze ["word", "place"] (qf vL):=⟨rfl,rfl,rfl,by decide +kernel,rfl,by decide +kernel,by decide +kernel⟩
noncomputable def vM:Sl->Out (Fl×Sl):=(qR (jN 2 (dIf (qN (d2 geD (qe 1) (dC (.int 0)))) (qe 1) (d2 kz (d1 ka (qe 0)) (qe 1))))
  (jE (d2 ixD (qe 0) (d2 qdP (dC (.int 0)) (d2 qdQ (qe 2) (d2 JL (d1 ka (qe 0)) (dC (.int 1))))))))
noncomputable abbrev kE:List D->Out (D×List D):=ke ze [.val,.val] (vM)
abbrev yO P w K mg base cv:=DefOk P w K mg base cv 1 "letter_at" ["word", "place"] [.val,.val] .sh (kE)
theorem Js (Z:Zt K mg cv ca) (T:qV K mg "letter_at" vL ["word", "place"]):yO P w K mg base cv:=
 qI (k:=0) (own':=[]) (fb:=vM) T sc_letter_at fun cdv f A outer s H E hr=>(qh (qM (i:=2) sc_letter_at.nd rfl (Or.inl rfl) (UN (qL qcG (vr 1) qr) (vr 1) (qO (jA rfl) (qH (jx rfl) rfl Z.z_len jr (vr 0)) (vr 1))))
  (qm (qp (jb rfl hr.units (vr 0) (Jb (qcR rfl) rfl Z.z_max qc9 qr (Jb (qcS rfl) rfl Z.z_min qda (vr 2) (qO xB (qH (jx rfl) rfl Z.z_len jr (vr 0)) qr))) (fun _ _=>rfl)))))
abbrev yj:Stmt:=top 24
abbrev Kt:List Str:=["words", "look"]
theorem ZV:FnScope Kt ["words", "look"] (qf yj):=⟨rfl,rfl,rfl,by decide +kernel,rfl,by decide +kernel,by decide +kernel⟩
noncomputable def Ku:Sl->Out (Fl×Sl):=(qR (kg (qt [.vl] kl (qd (qe 0) qC)))
  (qR (kg (qt [.vl] kS (qd (qe 1) qC)))
  (jE (jn [] 1 [1] (vj (qe 0)) (gNm 0) ftT (yE (qd (qt [.vl,.vl] kE (qd (qe 0) (qd (d2 ixD (qe 1) (dC (.int 0))) qC))) (qd (qt [.vl,.vl] kE (qd (qe 0) (qd (d2 ixD (qe 1) (dC (.int 1))) qC))) qC)))))))
noncomputable abbrev vN:List D->Out (D×List D):=ke Kt [.val,.val] (Ku)
abbrev uJ P w K mg base cv:=DefOk P w K mg base cv 5 "pairs" ["words", "look"] [.val,.val] .sh (vN)
theorem ZW (Z:Zt K mg cv ca) (T:qV K mg "pairs" yj ["words", "look"]) (ok_check_words:vg P w K mg base cv) (ok_check_look:vK P w K mg base cv) (ok_letter_at:yO P w K mg base cv):uJ P w K mg base cv:=
 qI (k:=4) (own':=[]) (fb:=Ku) T ZV fun cdv f A outer s H E hr=>(qh (jl (ql ok_check_words hr (by decide) qJ rfl (qc (vr 0) qg)))
  (qh (jl (ql ok_check_look hr (by decide) qJ rfl (qc (vr 1) qg)))
  (qm (qp (jI (N:=["word", "look"]) (nt:=1) (cap:=[1]) rfl (vZ (names:=(qf yj).names) rfl (by decide +kernel)) (jP (names:=(qf yj).names) (N:=Kt) rfl rfl (by decide +kernel)) (qZ rfl (vr 0)) (fun fp L s1 H1=>(qu (i:=0) (show List.Nodup (["word", "look"]:List Str) from by decide +kernel) rfl (Or.inl rfl))) (fun fp L s1 H1=>jm) (fun fp L s1 H1=>(kL (qc (ql ok_letter_at hr (by decide) yd rfl (qc (vr 0) (qc (jb rfl hr.units (vr 1) qr (fun _ _=>rfl)) qg))) (qc (ql ok_letter_at hr (by decide) yd rfl (qc (vr 0) (qc (jb rfl hr.units (vr 1) qr (fun _ _=>rfl)) qg))) qg)))))))))
abbrev vO:Stmt:=top 42
abbrev zf:List Str:=["one", "two"]
theorem Jt:FnScope zf ["one", "two"] (qf vO):=⟨rfl,rfl,rfl,by decide +kernel,rfl,by decide +kernel,by decide +kernel⟩
noncomputable def vP:Sl->Out (Fl×Sl):=(jE (qdM (d2 eqD (qe 0) (qe 1)) (d2 eqD (qe 0) (yE (qd (d2 ixD (qe 1) (dC (.int 1))) (qd (d2 ixD (qe 1) (dC (.int 0))) qC))))))
noncomputable abbrev jT:List D->Out (D×List D):=ke zf [.val,.val] (vP)
abbrev yP P w K mg base cv:=DefOk P w K mg base cv 1 "are_alike" ["one", "two"] [.val,.val] .sh (jT)
theorem Ju (Z:Zt K mg cv ca) (T:qV K mg "are_alike" vO ["one", "two"]):yP P w K mg base cv:=
 qI (k:=0) (own':=[]) (fb:=vP) T Jt fun cdv f A outer s H E hr=>(qm (qp (qeA (ut (we rfl hr.units) (vr 0) (vr 1)) (Vp (ut (we rfl hr.units) (vr 0) (kL (qc (jb rfl hr.units (vr 1) qr (fun _ _=>rfl)) (qc (jb rfl hr.units (vr 1) qr (fun _ _=>rfl)) qg))))))))
abbrev yk:Stmt:=top 44
abbrev Kv:List Str:=["words", "look", "seen", "found", "first", "pair", "group"]
theorem sc_alike:FnScope Kv ["words", "look"] (qf yk):=⟨rfl,rfl,rfl,by decide +kernel,rfl,by decide +kernel,by decide +kernel⟩
noncomputable def Kw:Sl->Out (Fl×Sl):=(qR (jN 2 (qt [.vl,.vl] vN (qd (qe 0) (qd (qe 1) qC))))
  (qR (jN 3 (xa qC))
  (qR (QV (yf (qe 2)) (ju 2 (qx (gNm 4) (qx (gNm 5) jt)))
  (qR (jN 6 (jn [3] 2 [5] (yf (qe 2)) (ju 2 (qx (gNm 0) (qx (gNm 1) jt))) (xD (qt [.vl,.vl] jT (qd (qe 2) (qd (qe 1) qC)))) (qe 0)))
  (sIf (qN (d2 eqD (d2 ixD (qe 6) (dC (.int 0))) (qe 4))) (kg (zX 3 zH (qe 6))) ji)))
  (jE (qe 3)))))
noncomputable abbrev gS:List D->Out (D×List D):=ke Kv [.val,.val] (Kw)
abbrev VQ P w K mg base cv:=DefOk P w K mg base cv 6 "alike" ["words", "look"] [.val,.val] .sh (gS)
theorem ZX (Z:Zt K mg cv ca) (T:qV K mg "alike" yk ["words", "look"]) (ok_pairs:uJ P w K mg base cv) (ok_are_alike:yP P w K mg base cv):VQ P w K mg base cv:=
 qI (k:=5) (own':=[]) (fb:=Kw) T sc_alike fun cdv f A outer s H E hr=>(qh (qM (i:=2) sc_alike.nd rfl (Or.inl rfl) (ql ok_pairs hr (by decide) qJ rfl (qc (vr 0) (qc (vr 1) qg))))
  (qh (jF (i:=3) sc_alike.nd rfl (Or.inl rfl) (jZ qg))
  (qh (kf PassesOwn.leaving rfl (xh rfl rfl Z.z_enumerate (vr 2)) (vb rfl rfl (qG (qu (i:=4) sc_alike.nd rfl (Or.inl rfl)) (qG (qu (i:=5) sc_alike.nd rfl (Or.inr rfl)) jU)))
  (qh (xg (N:=["at", "other", "pair"]) (nt:=2) (cap:=[5]) sc_alike.nd (i:=6) rfl (Or.inl rfl) rfl (vZ (names:=(qf yk).names) rfl (by decide +kernel)) (jP (names:=(qf yk).names) (N:=Kv) rfl rfl (by decide +kernel)) (xh rfl rfl Z.z_enumerate (vr 2)) (fun fp L s1 H1=>(vb rfl rfl (qG (qu (i:=0) (show List.Nodup (["at", "other", "pair"]:List Str) from by decide +kernel) rfl (Or.inl rfl)) (qG (qu (i:=1) (show List.Nodup (["at", "other", "pair"]:List Str) from by decide +kernel) rfl (Or.inl rfl)) jU)))) (fun fp L s1 H1=>(gC (jz rfl (ql ok_are_alike hr (by decide) yd rfl (qc (vr 2) (qc (vr 1) qg))) (fun _=>rfl)))) (fun fp L s1 H1=>(vr 0)))
  (kK [6] (qm (jk (qL (we rfl hr.units) (jb rfl hr.units (vr 6) qr (fun _ _=>rfl)) (vr 4)) (qm (jl (vo (i:=3) rfl rfl (Or.inl rfl) (by decide) (vr 6)))) qP)))))
  (kK [3] (qm (qp (vr 3)))))))
abbrev ku:Stmt:=top 45
abbrev yl:List Str:=["words"]
theorem Ky:FnScope yl ["words"] (qf ku):=⟨rfl,rfl,rfl,by decide +kernel,rfl,by decide +kernel,by decide +kernel⟩
noncomputable def ym:Sl->Out (Fl×Sl):=(qR (kg (qt [.vl] kl (qd (qe 0) qC)))
  (jE (d1 vW (jn [] 1 [] (vj (qe 0)) (gNm 0) ftT (VB (qe 0) none none (some (d1 WG (dC (.int 1)))))))))
noncomputable abbrev vx:List D->Out (D×List D):=ke yl [.val] (ym)
abbrev zg P w K mg base cv:=DefOk P w K mg base cv 5 "mirrored" ["words"] [.val] .sh (vx)
theorem Kz (Z:Zt K mg cv ca) (T:qV K mg "mirrored" ku ["words"]) (ok_check_words:vg P w K mg base cv):zg P w K mg base cv:=
 qI (k:=4) (own':=[]) (fb:=ym) T Ky fun cdv f A outer s H E hr=>(qh (jl (ql ok_check_words hr (by decide) qJ rfl (qc (vr 0) qg)))
  (qm (qp (jG (uC rfl) rfl Z.z_tuple kO (jI (N:=["word"]) (nt:=1) (cap:=[]) rfl (vZ (names:=(qf ku).names) rfl (by decide +kernel)) (jP (names:=(qf ku).names) (N:=yl) rfl rfl (by decide +kernel)) (qZ rfl (vr 0)) (fun fp L s1 H1=>(qu (i:=0) (show List.Nodup (["word"]:List Str) from by decide +kernel) rfl (Or.inl rfl))) (fun fp L s1 H1=>jm) (fun fp L s1 H1=>(Zz rfl (vr 0) VC VC (Zy (JZ xG qr)))))))))
abbrev xi:Stmt:=top 46
abbrev VR:List Str:=["look"]
theorem YM:FnScope VR ["look"] (qf xi):=⟨rfl,rfl,rfl,by decide +kernel,rfl,by decide +kernel,by decide +kernel⟩
noncomputable def gT:Sl->Out (Fl×Sl):=(qR (kg (qt [.vl] kS (qd (qe 0) qC)))
  (jE (yE (qd (d2 JL (d1 WG (dC (.int 1))) (d2 ixD (qe 0) (dC (.int 0)))) (qd (d2 JL (d1 WG (dC (.int 1))) (d2 ixD (qe 0) (dC (.int 1)))) qC)))))
noncomputable abbrev uK:List D->Out (D×List D):=ke VR [.val] (gT)
abbrev Jv P w K mg base cv:=DefOk P w K mg base cv 4 "turned" ["look"] [.val] .sh (uK)
theorem YN (Z:Zt K mg cv ca) (T:qV K mg "turned" xi ["look"]) (ok_check_look:vK P w K mg base cv):Jv P w K mg base cv:=
 qI (k:=3) (own':=[]) (fb:=gT) T YM fun cdv f A outer s H E hr=>(qh (jl (ql ok_check_look hr (by decide) qJ rfl (qc (vr 0) qg)))
  (qm (qp (kL (qc (qO xB (JZ xG qr) (jb rfl hr.units (vr 0) qr (fun _ _=>rfl))) (qc (qO xB (JZ xG qr) (jb rfl hr.units (vr 0) qr (fun _ _=>rfl))) qg))))))
abbrev kT:Stmt:=top 20
abbrev yQ:List Str:=["thing"]
theorem gU:FnScope yQ ["thing"] (qf kT):=⟨rfl,rfl,rfl,by decide +kernel,rfl,by decide +kernel,by decide +kernel⟩
noncomputable def wk:Sl->Out (Fl×Sl):=(sIf (WB (xD (qt [.vl,.vl,.vl] jo (qd (qe 0) (qd (dC (.int 1)) (qd (dC (.int 99)) qC)))))) (yb "NoRoom" (qd (dC (.str "a room is a whole number from 1 to 99")) qC)) ji)
noncomputable abbrev wl:List D->Out (D×List D):=ke yQ [.val] (wk)
abbrev uL P w K mg base cv:=DefOk P w K mg base cv 2 "check_room" ["thing"] [.val] .sh (wl)
theorem gW (Z:Zt K mg cv ca) (T:qV K mg "check_room" kT ["thing"]) (ok_is_between:km P w K mg base cv):uL P w K mg base cv:=
 qI (k:=1) (own':=[]) (fb:=wk) T gU fun cdv f A outer s H E hr=>(qm (jk (kx (jz rfl (ql ok_is_between hr (by decide) qJ rfl (qc (vr 0) (qc qr (qc (uB Z.c_MOST_ROOM rfl) qg)))) (fun _=>rfl))) (qm (uA rfl (VE rfl) rfl rfl (Z.mref "NoRoom" (by decide +kernel)) (Z.xs.val "NoRoom" (by decide +kernel)) (Z.xin "NoRoom" (by decide +kernel)) (qc xA qg))) qP))
abbrev jC:Stmt:=top 17
abbrev wm:List Str:=["thing", "count", "room"]
theorem gX:FnScope wm ["thing", "count", "room"] (qf jC):=⟨rfl,rfl,rfl,by decide +kernel,rfl,by decide +kernel,by decide +kernel⟩
noncomputable def wn:Sl->Out (Fl×Sl):=(qR (sIf (dOr (WB (xD (d1 (zF "tuple") (qe 0)))) (qN (d2 neD (d1 ka (qe 0)) (qe 1)))) (jE (dC (.bl false))) ji)
  (jE (d1 Zw (jn [] 1 [2] (vj (qe 0)) (gNm 0) ftT (qt [.vl,.vl,.vl] jo (qd (qe 0) (qd (dC (.int 0)) (qd (d2 JL (qe 1) (dC (.int 1))) qC))))))))
noncomputable abbrev wo:List D->Out (D×List D):=ke wm [.val,.val,.val] (wn)
abbrev uM P w K mg base cv:=DefOk P w K mg base cv 2 "is_numbers" ["thing", "count", "room"] [.val,.val,.val] .sh (wo)
theorem gY (Z:Zt K mg cv ca) (T:qV K mg "is_numbers" jC ["thing", "count", "room"]) (ok_is_between:km P w K mg base cv):uM P w K mg base cv:=
 qI (k:=1) (own':=[]) (fb:=wn) T gX fun cdv f A outer s H E hr=>(qh (jk (PW.pt (wU (kx (jz rfl (xH rfl rfl Z.z_isinstance jg rfl Z.z_tuple kO (vr 0)) (fun _=>rfl))) (ky (qL (xC rfl hr.units) (qH (jx rfl) rfl Z.z_len jr (vr 0)) (vr 1))))) (qm (qp gt)) qP)
  (qm (qp (qH (VA rfl rfl) rfl Z.z_all VP (jI (N:=["number", "room"]) (nt:=1) (cap:=[2]) rfl (vZ (names:=(qf jC).names) rfl (by decide +kernel)) (jP (names:=(qf jC).names) (N:=wm) rfl rfl (by decide +kernel)) (qZ rfl (vr 0)) (fun fp L s1 H1=>(qu (i:=0) (show List.Nodup (["number", "room"]:List Str) from by decide +kernel) rfl (Or.inl rfl))) (fun fp L s1 H1=>jm) (fun fp L s1 H1=>(ql ok_is_between hr (by decide) yd rfl (qc (vr 0) (qc qr (qc (qO xB (vr 1) qr) qg))))))))))
abbrev jK:Stmt:=top 21
abbrev wp:List Str:=["thing", "count", "room"]
theorem yW:FnScope wp ["thing", "count", "room"] (qf jK):=⟨rfl,rfl,rfl,by decide +kernel,rfl,by decide +kernel,by decide +kernel⟩
noncomputable def kG:Sl->Out (Fl×Sl):=(sIf (WB (xD (qt [.vl,.vl,.vl] wo (qd (qe 0) (qd (qe 1) (qd (qe 2) qC)))))) (yb "NoNumbers" (qd (dC (.str "numbers are a tuple of a number within the room for each word")) qC)) ji)
noncomputable abbrev kH:List D->Out (D×List D):=ke wp [.val,.val,.val] (kG)
abbrev vX P w K mg base cv:=DefOk P w K mg base cv 3 "check_numbers" ["thing", "count", "room"] [.val,.val,.val] .sh (kH)
theorem yX (Z:Zt K mg cv ca) (T:qV K mg "check_numbers" jK ["thing", "count", "room"]) (ok_is_numbers:uM P w K mg base cv):vX P w K mg base cv:=
 qI (k:=2) (own':=[]) (fb:=kG) T yW fun cdv f A outer s H E hr=>(qm (jk (kx (jz rfl (ql ok_is_numbers hr (by decide) qJ rfl (qc (vr 0) (qc (vr 1) (qc (vr 2) qg)))) (fun _=>rfl))) (qm (uA rfl (VE rfl) rfl rfl (Z.mref "NoNumbers" (by decide +kernel)) (Z.xs.val "NoNumbers" (by decide +kernel)) (Z.xin "NoNumbers" (by decide +kernel)) (qc xA qg))) qP))
abbrev kU:Stmt:=top 27
abbrev yR:List Str:=["words", "look", "room", "numbers", "seen"]
theorem sc_told_pairs:FnScope yR ["words", "look", "room", "numbers"] (qf kU):=⟨rfl,rfl,rfl,by decide +kernel,rfl,by decide +kernel,by decide +kernel⟩
noncomputable def wq:Sl->Out (Fl×Sl):=(qR (jN 4 (qt [.vl,.vl] vN (qd (qe 0) (qd (qe 1) qC))))
  (qR (kg (qt [.vl] wl (qd (qe 2) qC)))
  (qR (kg (qt [.vl,.vl,.vl] kH (qd (qe 3) (qd (d1 ka (qe 0)) (qd (qe 2) qC)))))
  (jE (qe 4)))))
noncomputable abbrev wt:List D->Out (D×List D):=ke yR [.val,.val,.val,.val] (wq)
abbrev uN P w K mg base cv:=DefOk P w K mg base cv 6 "told_pairs" ["words", "look", "room", "numbers"] [.val,.val,.val,.val] .sh (wt)
theorem gZ (Z:Zt K mg cv ca) (T:qV K mg "told_pairs" kU ["words", "look", "room", "numbers"]) (ok_check_room:uL P w K mg base cv) (ok_check_numbers:vX P w K mg base cv) (ok_pairs:uJ P w K mg base cv):uN P w K mg base cv:=
 qI (k:=5) (own':=[]) (fb:=wq) T sc_told_pairs fun cdv f A outer s H E hr=>(qh (qM (i:=4) sc_told_pairs.nd rfl (Or.inl rfl) (ql ok_pairs hr (by decide) qJ rfl (qc (vr 0) (qc (vr 1) qg))))
  (qh (jl (ql ok_check_room hr (by decide) qJ rfl (qc (vr 2) qg)))
  (qh (jl (ql ok_check_numbers hr (by decide) qJ rfl (qc (vr 3) (qc (qH (jx rfl) rfl Z.z_len jr (vr 0)) (qc (vr 2) qg)))))
  (qm (qp (vr 4))))))
abbrev xj:Stmt:=top 30
abbrev VS:List Str:=["walk"]
theorem YO:FnScope VS ["walk"] (qf xj):=⟨rfl,rfl,rfl,by decide +kernel,rfl,by decide +kernel,by decide +kernel⟩
noncomputable def xl:Sl->Out (Fl×Sl):=(jE (d2 eqD (d2 uX (d1 ka (qe 0)) (dC (.int 2))) (dC (.int 1))))
noncomputable abbrev vQ:List D->Out (D×List D):=ke VS [.val] (xl)
abbrev uO P w K mg base cv:=DefOk P w K mg base cv 1 "is_odd" ["walk"] [.val] .sh (vQ)
theorem YQ (Z:Zt K mg cv ca) (T:qV K mg "is_odd" xj ["walk"]):uO P w K mg base cv:=
 qI (k:=0) (own':=[]) (fb:=xl) T YO fun cdv f A outer s H E hr=>(qm (qp (ut (we rfl hr.units) (qO kJ (qH (jx rfl) rfl Z.z_len jr (vr 0)) qr) qr)))
abbrev wH:Stmt:=top 29
abbrev yn:List Str:=["walk", "numbers", "start", "total", "at"]
theorem sc_comes_to:FnScope yn ["walk", "numbers", "start"] (qf wH):=⟨rfl,rfl,rfl,by decide +kernel,rfl,by decide +kernel,by decide +kernel⟩
noncomputable def yo:Sl->Out (Fl×Sl):=(qR (jN 3 (qe 2))
  (qR (QV (vj (qe 0)) (gNm 4)
  (jN 3 (d2 JL (d2 ixD (qe 1) (qe 4)) (qe 3))))
  (jE (qe 3))))
noncomputable abbrev wI:List D->Out (D×List D):=ke yn [.val,.val,.val] (yo)
abbrev uh P w K mg base cv:=DefOk P w K mg base cv 1 "comes_to" ["walk", "numbers", "start"] [.val,.val,.val] .sh (wI)
theorem KA (Z:Zt K mg cv ca) (T:qV K mg "comes_to" wH ["walk", "numbers", "start"]):uh P w K mg base cv:=
 qI (k:=0) (own':=[]) (fb:=yo) T sc_comes_to fun cdv f A outer s H E hr=>(qh (qM (i:=3) sc_comes_to.nd rfl (Or.inl rfl) (vr 2))
  (qh (kf PassesOwn.leaving rfl (qZ rfl (vr 0)) (qu (i:=4) sc_comes_to.nd rfl (Or.inl rfl))
  (qm (qM (i:=3) sc_comes_to.nd rfl (Or.inl rfl) (qO xB (jb rfl hr.units (vr 1) (vr 4) (fun _ _=>rfl)) (vr 3)))))
  (qm (qp (vr 3)))))
abbrev VT:Stmt:=top 31
abbrev GU:List Str:=["walk", "room", "numbers", "total"]
theorem sc_bars:FnScope GU ["walk", "room", "numbers"] (qf VT):=⟨rfl,rfl,rfl,by decide +kernel,rfl,by decide +kernel,by decide +kernel⟩
noncomputable def VU:Sl->Out (Fl×Sl):=(qR (jN 3 (qt [.vl,.vl,.vl] wI (qd (qe 0) (qd (qe 2) (qd (dC (.int 0)) qC)))))
  (qR (sIf (xD (qt [.vl] vQ (qd (qe 0) qC))) (jE (Kb (d2 eqD (d2 uX (qe 1) (dC (.int 2))) (dC (.int 0))) (d2 eqD (d2 uX (qe 3) (dC (.int 2))) (dC (.int 1))))) ji)
  (jE (d2 neD (d2 uX (qe 3) (qe 1)) (dC (.int 0))))))
noncomputable abbrev VV:List D->Out (D×List D):=ke GU [.val,.val,.val] (VU)
abbrev YR P w K mg base cv:=DefOk P w K mg base cv 2 "bars" ["walk", "room", "numbers"] [.val,.val,.val] .sh (VV)
theorem qbn (Z:Zt K mg cv ca) (T:qV K mg "bars" VT ["walk", "room", "numbers"]) (ok_comes_to:uh P w K mg base cv) (ok_is_odd:uO P w K mg base cv):YR P w K mg base cv:=
 qI (k:=1) (own':=[]) (fb:=VU) T sc_bars fun cdv f A outer s H E hr=>(qh (qM (i:=3) sc_bars.nd rfl (Or.inl rfl) (ql ok_comes_to hr (by decide) qJ rfl (qc (vr 0) (qc (vr 2) (qc qr qg)))))
  (qh (jk (jz rfl (ql ok_is_odd hr (by decide) qJ rfl (qc (vr 0) qg)) (fun _=>rfl)) (qm (qp (Vq (ut (we rfl hr.units) (qO kJ (vr 1) qr) qr) (Vp (ut (we rfl hr.units) (qO kJ (vr 3) qr) qr))))) qP)
  (qm (qp (ut (xC rfl hr.units) (qO kJ (vr 3) (vr 1)) qr)))))
abbrev jf:Stmt:=top 25
abbrev kX:List Str:=["seen"]
theorem Qa:FnScope kX ["seen"] (qf jf):=⟨rfl,rfl,rfl,by decide +kernel,rfl,by decide +kernel,by decide +kernel⟩
noncomputable def wu:Sl->Out (Fl×Sl):=(jE (d1 wG (d2 kz (jn [] 1 [] (vj (qe 0)) (gNm 0) ftT (d2 ixD (qe 0) (dC (.int 0)))) (jn [] 1 [] (vj (qe 0)) (gNm 0) ftT (d2 ixD (qe 0) (dC (.int 1)))))))
noncomputable abbrev kY:List D->Out (D×List D):=ke kX [.val] (wu)
abbrev uP P w K mg base cv:=DefOk P w K mg base cv 1 "letters_of" ["seen"] [.val] .sh (kY)
theorem Qb (Z:Zt K mg cv ca) (T:qV K mg "letters_of" jf ["seen"]):uP P w K mg base cv:=
 qI (k:=0) (own':=[]) (fb:=wu) T Qa fun cdv f A outer s H E hr=>(qm (qp (ga rfl rfl rfl Z.z_sorted xW rfl Z.z_set YL (qO (jA rfl) (jI (N:=["pair"]) (nt:=1) (cap:=[]) rfl (vZ (names:=(qf jf).names) rfl (by decide +kernel)) (jP (names:=(qf jf).names) (N:=kX) rfl rfl (by decide +kernel)) (qZ rfl (vr 0)) (fun fp L s1 H1=>(qu (i:=0) (show List.Nodup (["pair"]:List Str) from by decide +kernel) rfl (Or.inl rfl))) (fun fp L s1 H1=>jm) (fun fp L s1 H1=>(jb rfl hr.units (vr 0) qr (fun _ _=>rfl)))) (jI (N:=["pair"]) (nt:=1) (cap:=[]) rfl (vZ (names:=(qf jf).names) rfl (by decide +kernel)) (jP (names:=(qf jf).names) (N:=kX) rfl rfl (by decide +kernel)) (qZ rfl (vr 0)) (fun fp L s1 H1=>(qu (i:=0) (show List.Nodup (["pair"]:List Str) from by decide +kernel) rfl (Or.inl rfl))) (fun fp L s1 H1=>jm) (fun fp L s1 H1=>(jb rfl hr.units (vr 0) qr (fun _ _=>rfl))))))))
abbrev jW:Stmt:=top 28
abbrev wV:List Str:=["pair", "letter"]
theorem zh:FnScope wV ["pair", "letter"] (qf jW):=⟨rfl,rfl,rfl,by decide +kernel,rfl,by decide +kernel,by decide +kernel⟩
noncomputable def vh:Sl->Out (Fl×Sl):=(jE (dIf (qN (d2 eqD (qe 1) (d2 ixD (qe 0) (dC (.int 0))))) (d2 ixD (qe 0) (dC (.int 1))) (d2 ixD (qe 0) (dC (.int 0)))))
noncomputable abbrev jX:List D->Out (D×List D):=ke wV [.val,.val] (vh)
abbrev wv P w K mg base cv:=DefOk P w K mg base cv 1 "other_letter" ["pair", "letter"] [.val,.val] .sh (jX)
theorem zi (Z:Zt K mg cv ca) (T:qV K mg "other_letter" jW ["pair", "letter"]):wv P w K mg base cv:=
 qI (k:=0) (own':=[]) (fb:=vh) T zh fun cdv f A outer s H E hr=>(qm (qp (UN (qL (we rfl hr.units) (vr 1) (jb rfl hr.units (vr 0) qr (fun _ _=>rfl))) (jb rfl hr.units (vr 0) qr (fun _ _=>rfl)) (jb rfl hr.units (vr 0) qr (fun _ _=>rfl)))))
abbrev xm:Stmt:=top 32
abbrev Qc:List Str:=["seen", "root", "ways", "waiting", "letter", "at", "pair", "reached"]
theorem sc_spread:FnScope Qc ["seen", "root", "ways"] (qf xm):=⟨rfl,rfl,rfl,by decide +kernel,rfl,by decide +kernel,by decide +kernel⟩
noncomputable def Qd:Sl->Out (Fl×Sl):=(qR (gM 2 (yE (qd (qe 1) (qd (xa qC) qC))) (qe 1))
  (qR (jN 3 (xa (qd (qe 1) qC)))
  (jO (qN (d2 gtD (d1 ka (qe 3)) (dC (.int 0))))
  (qR (jN 4 (YG 3))
  (QV (yf (qe 0)) (ju 2 (qx (gNm 5) (qx (gNm 6) jt)))
  (qR (jN 7 (qt [.vl,.vl] jX (qd (qe 6) (qd (qe 4) qC))))
  (sIf (qaN (qN (d2 inA (qe 4) (qe 6))) (qN (d2 gG (qe 7) (qe 2)))) (qR (gM 2 (yE (qd (qe 1) (qd (d2 kz (d2 ixD (d2O 2 ixD (qe 4)) (dC (.int 1))) (xa (qd (qe 5) qC))) qC))) (qe 7))
  (kg (zX 3 zH (qe 7)))) ji)))) 20)))
noncomputable abbrev xn:List D->Out (D×List D):=ke Qc [.val,.val,.io] (Qd)
abbrev Jw P w K mg base cv:=DefOk P w K mg base cv 2 "spread" ["seen", "root", "ways"] [.val,.val,.io] .sh (xn)
theorem YS (Z:Zt K mg cv ca) (T:qV K mg "spread" xm ["seen", "root", "ways"]) (ok_other_letter:wv P w K mg base cv):Jw P w K mg base cv:=
 qI (k:=1) (own':=[3,2]) (fb:=Qd) T sc_spread fun cdv f A outer s H E hr=>(qh (gN (n:=2) hr.units rfl (Or.inl rfl) (by decide) (kL (qc (vr 1) (qc (jZ qg) qg))) (vr 1))
  (qh (jF (i:=3) sc_spread.nd rfl (Or.inl rfl) (jZ (qc (vr 1) qg)))
  (qm (UU 20 PassesOwn.leaving (qL qeB (qH (jx rfl) rfl Z.z_len jr (kc (i:=3) rfl (Or.inl rfl) (by decide))) qr)
  (qh (qM (i:=4) sc_spread.nd rfl (Or.inl rfl) (qbj (i:=3) rfl (Or.inl rfl) (by decide)))
  (qm (kf PassesOwn.leaving rfl (xh rfl rfl Z.z_enumerate (vr 0)) (vb rfl rfl (qG (qu (i:=5) sc_spread.nd rfl (Or.inl rfl)) (qG (qu (i:=6) sc_spread.nd rfl (Or.inl rfl)) jU)))
  (qh (qM (i:=7) sc_spread.nd rfl (Or.inl rfl) (ql ok_other_letter hr (by decide) qJ rfl (qc (vr 6) (qc (vr 4) qg))))
  (qm (jk (PW.pt (UM (qL (qcV rfl hr.units) (vr 4) (vr 6)) (ky (qL (uD rfl hr.units) (vr 7) (kc (i:=2) rfl (Or.inl rfl) (by decide)))))) (qh (gN (n:=2) hr.units rfl (Or.inl rfl) (by decide) (kL (qc (vr 1) (qc (qO (jA rfl) (jb rfl hr.units (qc7 (i:=2) rfl hr.units rfl (Or.inl rfl) (by decide) (vr 4) (fun _ _=>rfl)) qr (fun _ _=>rfl)) (jZ (qc (vr 5) qg))) qg))) (vr 7))
  (qm (jl (vo (i:=3) rfl rfl (Or.inl rfl) (by decide) (vr 7))))) qP))))))))))
abbrev uQ:Stmt:=top 33
abbrev zj:List Str:=["seen", "ways", "letter"]
theorem sc_ways_of:FnScope zj ["seen"] (qf uQ):=⟨rfl,rfl,rfl,by decide +kernel,rfl,by decide +kernel,by decide +kernel⟩
noncomputable def zk:Sl->Out (Fl×Sl):=(qR (jN 1 (dC (.dct [])))
  (qR (QV (vj (qt [.vl] kY (qd (qe 0) qC))) (gNm 2)
  (sIf (qN (d2 gG (qe 2) (qe 1))) (kg (qt [.vl,.vl,.sl 1] xn (qd (qe 0) (qd (qe 2) (jY qC))))) ji))
  (jE (qe 1))))
noncomputable abbrev ww:List D->Out (D×List D):=ke zj [.val] (zk)
abbrev yp P w K mg base cv:=DefOk P w K mg base cv 3 "ways_of" ["seen"] [.val] .sh (ww)
theorem WZ (Z:Zt K mg cv ca) (T:qV K mg "ways_of" uQ ["seen"]) (ok_letters_of:uP P w K mg base cv) (ok_spread:Jw P w K mg base cv):yp P w K mg base cv:=
 qI (k:=2) (own':=[]) (fb:=zk) T sc_ways_of fun cdv f A outer s H E hr=>(qh (jF (i:=1) sc_ways_of.nd rfl (Or.inl rfl) Vt)
  (qh (kf PassesOwn.leaving rfl (qZ rfl (ql ok_letters_of hr (by decide) qJ rfl (qc (vr 0) qg))) (qu (i:=2) sc_ways_of.nd rfl (Or.inl rfl))
  (qm (jk (qL (uD rfl hr.units) (vr 2) (kc (i:=1) rfl (Or.inl rfl) (by decide))) (qm (jl (ql ok_spread hr (by decide) qJ rfl (qc (vr 0) (qc (vr 2) (qW (i:=1) rfl (Or.inl rfl) (by decide) qg)))))) qP)))
  (kK [1] (qm (qp (vr 1))))))
abbrev kZ:Stmt:=top 34
abbrev wx:List Str:=["seen", "ways", "found", "at", "pair", "back"]
theorem sc_circles_of:FnScope wx ["seen", "ways"] (qf kZ):=⟨rfl,rfl,rfl,by decide +kernel,rfl,by decide +kernel,by decide +kernel⟩
noncomputable def wy:Sl->Out (Fl×Sl):=(qR (jN 2 (xa qC))
  (qR (QV (yf (qe 0)) (ju 2 (qx (gNm 3) (qx (gNm 4) jt)))
  (qR (jN 5 (d1 uG (d2 ixD (d2 ixD (qe 1) (d2 ixD (qe 4) (dC (.int 1)))) (dC (.int 1)))))
  (kg (zX 2 zH (yE (qd (d2 ixD (d2 ixD (qe 1) (d2 ixD (qe 4) (dC (.int 0)))) (dC (.int 0))) (qd (d2 kz (d2 kz (d2 ixD (d2 ixD (qe 1) (d2 ixD (qe 4) (dC (.int 0)))) (dC (.int 1))) (xa (qd (qe 3) qC))) (qe 5)) qC)))))))
  (jE (qe 2))))
noncomputable abbrev va:List D->Out (D×List D):=ke wx [.val,.val] (wy)
abbrev vR P w K mg base cv:=DefOk P w K mg base cv 1 "circles_of" ["seen", "ways"] [.val,.val] .sh (va)
theorem Qe (Z:Zt K mg cv ca) (T:qV K mg "circles_of" kZ ["seen", "ways"]):vR P w K mg base cv:=
 qI (k:=0) (own':=[]) (fb:=wy) T sc_circles_of fun cdv f A outer s H E hr=>(qh (jF (i:=2) sc_circles_of.nd rfl (Or.inl rfl) (jZ qg))
  (qh (kf PassesOwn.leaving rfl (xh rfl rfl Z.z_enumerate (vr 0)) (vb rfl rfl (qG (qu (i:=3) sc_circles_of.nd rfl (Or.inl rfl)) (qG (qu (i:=4) sc_circles_of.nd rfl (Or.inl rfl)) jU)))
  (qh (qM (i:=5) sc_circles_of.nd rfl (Or.inl rfl) (WS rfl rfl rfl Z.z_list xV rfl Z.z_reversed Kq (jb rfl hr.units (jb rfl hr.units (vr 1) (jb rfl hr.units (vr 4) qr (fun _ _=>rfl)) (fun _ _=>rfl)) qr (fun _ _=>rfl))))
  (qm (jl (vo (i:=2) rfl rfl (Or.inl rfl) (by decide) (kL (qc (jb rfl hr.units (jb rfl hr.units (vr 1) (jb rfl hr.units (vr 4) qr (fun _ _=>rfl)) (fun _ _=>rfl)) qr (fun _ _=>rfl)) (qc (qO (jA rfl) (qO (jA rfl) (jb rfl hr.units (jb rfl hr.units (vr 1) (jb rfl hr.units (vr 4) qr (fun _ _=>rfl)) (fun _ _=>rfl)) qr (fun _ _=>rfl)) (jZ (qc (vr 3) qg))) (vr 5)) qg))))))))
  (kK [2] (qm (qp (vr 2))))))
abbrev vS:Stmt:=top 35
abbrev ui:List Str:=["circles", "first", "root", "walk"]
theorem sc_first_odd:FnScope ui ["circles"] (qf vS):=⟨rfl,rfl,rfl,by decide +kernel,rfl,by decide +kernel,by decide +kernel⟩
noncomputable def uj:Sl->Out (Fl×Sl):=(qR (jN 1 (dC (.dct [])))
  (qR (QV (vj (qe 0)) (ju 2 (qx (gNm 2) (qx (gNm 3) jt)))
  (sIf (qaN (xD (qt [.vl] vQ (qd (qe 3) qC))) (qN (d2 gG (qe 2) (qe 1)))) (gM 1 (qe 3) (qe 2)) ji))
  (jE (qe 1))))
noncomputable abbrev vT:List D->Out (D×List D):=ke ui [.val] (uj)
abbrev wz P w K mg base cv:=DefOk P w K mg base cv 2 "first_odd" ["circles"] [.val] .sh (vT)
theorem Jx (Z:Zt K mg cv ca) (T:qV K mg "first_odd" vS ["circles"]) (ok_is_odd:uO P w K mg base cv):wz P w K mg base cv:=
 qI (k:=1) (own':=[]) (fb:=uj) T sc_first_odd fun cdv f A outer s H E hr=>(qh (jF (i:=1) sc_first_odd.nd rfl (Or.inl rfl) Vt)
  (qh (kf PassesOwn.leaving rfl (qZ rfl (vr 0)) (vb rfl rfl (qG (qu (i:=2) sc_first_odd.nd rfl (Or.inl rfl)) (qG (qu (i:=3) sc_first_odd.nd rfl (Or.inl rfl)) jU)))
  (qm (jk (PW.pt (UM (jz rfl (ql ok_is_odd hr (by decide) qJ rfl (qc (vr 3) qg)) (fun _=>rfl)) (ky (qL (uD rfl hr.units) (vr 2) (kc (i:=1) rfl (Or.inl rfl) (by decide)))))) (qm (gN (n:=1) hr.units rfl (Or.inl rfl) (by decide) (vr 3) (vr 2))) qP)))
  (kK [1] (qm (qp (vr 1))))))
abbrev wJ:Stmt:=top 36
abbrev xo:List Str:=["seen", "room", "numbers", "circles", "first", "joined", "root", "walk"]
theorem sc_bar_of:FnScope xo ["seen", "room", "numbers"] (qf wJ):=⟨rfl,rfl,rfl,by decide +kernel,rfl,by decide +kernel,by decide +kernel⟩
noncomputable def Qf:Sl->Out (Fl×Sl):=(qR (jN 3 (qt [.vl,.vl] va (qd (qe 0) (qd (qt [.vl] ww (qd (qe 0) qC)) qC))))
  (qR (jN 4 (qt [.vl] vT (qd (qe 3) qC)))
  (qR (jN 5 (jn [] 2 [4] (vj (qe 3)) (ju 2 (qx (gNm 0) (qx (gNm 1) jt))) (xD (qt [.vl] vQ (qd (qe 1) qC))) (yE (qd (qe 0) (qd (d2 kz (d2 ixD (qe 2) (qe 0)) (qe 1)) qC)))))
  (qR (QV (vj (d2 kz (qe 3) (qe 5))) (ju 2 (qx (gNm 6) (qx (gNm 7) jt)))
  (sIf (xD (qt [.vl,.vl,.vl] VV (qd (qe 7) (qd (qe 1) (qd (qe 2) qC))))) (jE (yE (qd (qe 6) (qd (qe 7) qC)))) ji))
  (jE (dC .non))))))
noncomputable abbrev Qg:List D->Out (D×List D):=ke xo [.val,.val,.val] (Qf)
abbrev Jy P w K mg base cv:=DefOk P w K mg base cv 4 "bar_of" ["seen", "room", "numbers"] [.val,.val,.val] .sh (Qg)
theorem YT (Z:Zt K mg cv ca) (T:qV K mg "bar_of" wJ ["seen", "room", "numbers"]) (ok_is_odd:uO P w K mg base cv) (ok_bars:YR P w K mg base cv) (ok_ways_of:yp P w K mg base cv) (ok_circles_of:vR P w K mg base cv) (ok_first_odd:wz P w K mg base cv):Jy P w K mg base cv:=
 qI (k:=3) (own':=[]) (fb:=Qf) T sc_bar_of fun cdv f A outer s H E hr=>(qh (qM (i:=3) sc_bar_of.nd rfl (Or.inl rfl) (ql ok_circles_of hr (by decide) qJ rfl (qc (vr 0) (qc (ql ok_ways_of hr (by decide) qJ rfl (qc (vr 0) qg)) qg))))
  (qh (qM (i:=4) sc_bar_of.nd rfl (Or.inr rfl) (ql ok_first_odd hr (by decide) qJ rfl (qc (vr 3) qg)))
  (qh (xg (N:=["root", "walk", "first"]) (nt:=2) (cap:=[4]) sc_bar_of.nd (i:=5) rfl (Or.inl rfl) rfl (vZ (names:=(qf wJ).names) rfl (by decide +kernel)) (jP (names:=(qf wJ).names) (N:=xo) rfl rfl (by decide +kernel)) (qZ rfl (vr 3)) (fun fp L s1 H1=>(vb rfl rfl (qG (qu (i:=0) (show List.Nodup (["root", "walk", "first"]:List Str) from by decide +kernel) rfl (Or.inl rfl)) (qG (qu (i:=1) (show List.Nodup (["root", "walk", "first"]:List Str) from by decide +kernel) rfl (Or.inl rfl)) jU)))) (fun fp L s1 H1=>(gC (jz rfl (ql ok_is_odd hr (by decide) yd rfl (qc (vr 1) qg)) (fun _=>rfl)))) (fun fp L s1 H1=>(kL (qc (vr 0) (qc (qO (jA rfl) (jb rfl hr.units (vr 2) (vr 0) (fun _ _=>rfl)) (vr 1)) qg)))))
  (qh (kf PassesOwn.leaving rfl (qZ rfl (qO (jA rfl) (vr 3) (kc (i:=5) rfl (Or.inl rfl) (by decide)))) (vb rfl rfl (qG (qu (i:=6) sc_bar_of.nd rfl (Or.inl rfl)) (qG (qu (i:=7) sc_bar_of.nd rfl (Or.inl rfl)) jU)))
  (qm (jk (jz rfl (ql ok_bars hr (by decide) qJ rfl (qc (vr 7) (qc (vr 1) (qc (vr 2) qg)))) (fun _=>rfl)) (qm (qp (kL (qc (vr 6) (qc (vr 7) qg))))) qP)))
  (qm (qp UF))))))
abbrev ZY:Stmt:=top 37
abbrev qdb:List Str:=["words", "look", "room", "numbers"]
theorem qdc:FnScope qdb ["words", "look", "room", "numbers"] (qf ZY):=⟨rfl,rfl,rfl,by decide +kernel,rfl,by decide +kernel,by decide +kernel⟩
noncomputable def qbo:Sl->Out (Fl×Sl):=(jE (qt [.vl,.vl,.vl] Qg (qd (qt [.vl,.vl,.vl,.vl] wt (qd (qe 0) (qd (qe 1) (qd (qe 2) (qd (qe 3) qC))))) (qd (qe 2) (qd (qe 3) qC)))))
noncomputable abbrev qbp:List D->Out (D×List D):=ke qdb [.val,.val,.val,.val] (qbo)
abbrev GV P w K mg base cv:=DefOk P w K mg base cv 7 "bar" ["words", "look", "room", "numbers"] [.val,.val,.val,.val] .sh (qbp)
theorem qdd (Z:Zt K mg cv ca) (T:qV K mg "bar" ZY ["words", "look", "room", "numbers"]) (ok_told_pairs:uN P w K mg base cv) (ok_bar_of:Jy P w K mg base cv):GV P w K mg base cv:=
 qI (k:=6) (own':=[]) (fb:=qbo) T qdc fun cdv f A outer s H E hr=>(qm (qp (ql ok_bar_of hr (by decide) qJ rfl (qc (ql ok_told_pairs hr (by decide) qJ rfl (qc (vr 0) (qc (vr 1) (qc (vr 2) (qc (vr 3) qg))))) (qc (vr 2) (qc (vr 3) qg))))))
abbrev VW:Stmt:=top 38
abbrev GW:List Str:=["total", "room", "rest"]
theorem sc_half:FnScope GW ["total", "room"] (qf VW):=⟨rfl,rfl,rfl,by decide +kernel,rfl,by decide +kernel,by decide +kernel⟩
noncomputable def YU:Sl->Out (Fl×Sl):=(qR (jN 2 (d2 uX (qe 0) (qe 1)))
  (jE (dIf (qN (d2 eqD (d2 uX (qe 2) (dC (.int 2))) (dC (.int 0)))) (d2 gu (qe 2) (dC (.int 2))) (d2 gu (d2 kz (qe 2) (qe 1)) (dC (.int 2))))))
noncomputable abbrev YV:List D->Out (D×List D):=ke GW [.val,.val] (YU)
abbrev YW P w K mg base cv:=DefOk P w K mg base cv 1 "half" ["total", "room"] [.val,.val] .sh (YV)
theorem qbq (Z:Zt K mg cv ca) (T:qV K mg "half" VW ["total", "room"]):YW P w K mg base cv:=
 qI (k:=0) (own':=[]) (fb:=YU) T sc_half fun cdv f A outer s H E hr=>(qh (qM (i:=2) sc_half.nd rfl (Or.inl rfl) (qO kJ (vr 0) (vr 1)))
  (qm (qp (UN (qL (we rfl hr.units) (qO kJ (vr 2) qr) qr) (qO gx (vr 2) qr) (qO gx (qO (jA rfl) (vr 2) (vr 1)) qr)))))
abbrev kn:Stmt:=top 39
abbrev uR:List Str:=["walk", "room", "numbers", "worth"]
theorem sc_root_worths:FnScope uR ["walk", "room", "numbers"] (qf kn):=⟨rfl,rfl,rfl,by decide +kernel,rfl,by decide +kernel,by decide +kernel⟩
noncomputable def jL:Sl->Out (Fl×Sl):=(qR (sIf (qN (d2 eqD (d1 ka (qe 0)) (dC (.int 0)))) (jE (d1 uF (qe 1))) ji)
  (qR (jN 3 (qt [.vl,.vl] YV (qd (qt [.vl,.vl,.vl] wI (qd (qe 0) (qd (qe 2) (qd (dC (.int 0)) qC)))) (qd (qe 1) qC))))
  (jE (dIf (qN (d2 eqD (d2 uX (qe 1) (dC (.int 2))) (dC (.int 0)))) (xa (qd (qe 3) (qd (d2 kz (qe 3) (d2 gu (qe 1) (dC (.int 2)))) qC))) (xa (qd (qe 3) qC))))))
noncomputable abbrev ko:List D->Out (D×List D):=ke uR [.val,.val,.val] (jL)
abbrev wW P w K mg base cv:=DefOk P w K mg base cv 2 "root_worths" ["walk", "room", "numbers"] [.val,.val,.val] .sh (ko)
theorem zN (Z:Zt K mg cv ca) (T:qV K mg "root_worths" kn ["walk", "room", "numbers"]) (ok_comes_to:uh P w K mg base cv) (ok_half:YW P w K mg base cv):wW P w K mg base cv:=
 qI (k:=1) (own':=[]) (fb:=jL) T sc_root_worths fun cdv f A outer s H E hr=>(qh (jk (qL (we rfl hr.units) (qH (jx rfl) rfl Z.z_len jr (vr 0)) qr) (qm (qp (WO rfl rfl Z.z_list xV rfl Z.z_range ZU (vr 1)))) qP)
  (qh (qM (i:=3) sc_root_worths.nd rfl (Or.inl rfl) (ql ok_half hr (by decide) qJ rfl (qc (ql ok_comes_to hr (by decide) qJ rfl (qc (vr 0) (qc (vr 2) (qc qr qg)))) (qc (vr 1) qg))))
  (qm (qp (UN (qL (we rfl hr.units) (qO kJ (vr 1) qr) qr) (jZ (qc (vr 3) (qc (qO (jA rfl) (vr 3) (qO gx (vr 1) qr)) qg))) (jZ (qc (vr 3) qg)))))))
abbrev jD:Stmt:=top 40
abbrev vy:List Str:=["seen", "room", "numbers", "ways", "first", "roots"]
theorem sc_roots_of:FnScope vy ["seen", "room", "numbers"] (qf jD):=⟨rfl,rfl,rfl,by decide +kernel,rfl,by decide +kernel,by decide +kernel⟩
noncomputable def yq:Sl->Out (Fl×Sl):=(qR (jN 3 (qt [.vl] ww (qd (qe 0) qC)))
  (qR (jN 4 (qt [.vl] vT (qd (qt [.vl,.vl] va (qd (qe 0) (qd (qe 3) qC))) qC)))
  (qR (jN 5 (jn [] 1 [3] (vj (d1 vG (qe 3))) (gNm 0) (qN (d2 eqD (d2 ixD (d2 ixD (qe 1) (qe 0)) (dC (.int 0))) (qe 0))) (qe 0)))
  (jE (jn [] 1 [1,2,4] (vj (qe 5)) (gNm 0) ftT (yE (qd (qe 0) (qd (qt [.vl,.vl,.vl] ko (qd (ZP (qe 3) (qe 0) (xa qC)) (qd (qe 1) (qd (qe 2) qC)))) qC))))))))
noncomputable abbrev wK:List D->Out (D×List D):=ke vy [.val,.val,.val] (yq)
abbrev zl P w K mg base cv:=DefOk P w K mg base cv 4 "roots_of" ["seen", "room", "numbers"] [.val,.val,.val] .sh (wK)
theorem KB (Z:Zt K mg cv ca) (T:qV K mg "roots_of" jD ["seen", "room", "numbers"]) (ok_ways_of:yp P w K mg base cv) (ok_circles_of:vR P w K mg base cv) (ok_first_odd:wz P w K mg base cv) (ok_root_worths:wW P w K mg base cv):zl P w K mg base cv:=
 qI (k:=3) (own':=[]) (fb:=yq) T sc_roots_of fun cdv f A outer s H E hr=>(qh (qM (i:=3) sc_roots_of.nd rfl (Or.inr rfl) (ql ok_ways_of hr (by decide) qJ rfl (qc (vr 0) qg)))
  (qh (qM (i:=4) sc_roots_of.nd rfl (Or.inr rfl) (ql ok_first_odd hr (by decide) qJ rfl (qc (ql ok_circles_of hr (by decide) qJ rfl (qc (vr 0) (qc (vr 3) qg))) qg)))
  (qh (xg (N:=["letter", "ways"]) (nt:=1) (cap:=[3]) sc_roots_of.nd (i:=5) rfl (Or.inl rfl) rfl (vZ (names:=(qf jD).names) rfl (by decide +kernel)) (jP (names:=(qf jD).names) (N:=vy) rfl rfl (by decide +kernel)) (qZ rfl (qH (WQ rfl) rfl Z.z_sorted xW (vr 3))) (fun fp L s1 H1=>(qu (i:=0) (show List.Nodup (["letter", "ways"]:List Str) from by decide +kernel) rfl (Or.inl rfl))) (fun fp L s1 H1=>(gC (qL (we rfl hr.units) (jb rfl hr.units (jb rfl hr.units (vr 1) (vr 0) (fun _ _=>rfl)) qr (fun _ _=>rfl)) (vr 0)))) (fun fp L s1 H1=>(vr 0)))
  (kK [5] (qm (qp (jI (N:=["root", "room", "numbers", "first"]) (nt:=1) (cap:=[1,2,4]) rfl (vZ (names:=(qf jD).names) rfl (by decide +kernel)) (jP (names:=(qf jD).names) (N:=vy) rfl rfl (by decide +kernel)) (qZ rfl (vr 5)) (fun fp L s1 H1=>(qu (i:=0) (show List.Nodup (["root", "room", "numbers", "first"]:List Str) from by decide +kernel) rfl (Or.inl rfl))) (fun fp L s1 H1=>jm) (fun fp L s1 H1=>(kL (qc (vr 0) (qc (ql ok_root_worths hr (by decide) yd rfl (qc (qbk hr.units (vr 3) (vr 0) (jZ qg)) (qc (vr 1) (qc (vr 2) qg)))) qg)))))))))))
abbrev wL:Stmt:=top 48
abbrev yr:List Str:=["words", "look", "room", "numbers", "count", "root", "choices"]
theorem sc_how_many:FnScope yr ["words", "look", "room", "numbers"] (qf wL):=⟨rfl,rfl,rfl,by decide +kernel,rfl,by decide +kernel,by decide +kernel⟩
noncomputable def wM:Sl->Out (Fl×Sl):=(qR (sIf (qN (d2 Zl (qt [.vl,.vl,.vl,.vl] qbp (qd (qe 0) (qd (qe 1) (qd (qe 2) (qd (qe 3) qC))))) (dC .non))) (jE (dC (.int 0))) ji)
  (qR (jN 4 (dC (.int 1)))
  (qR (QV (vj (qt [.vl,.vl,.vl] wK (qd (qt [.vl,.vl] vN (qd (qe 0) (qd (qe 1) qC))) (qd (qe 2) (qd (qe 3) qC))))) (ju 2 (qx (gNm 5) (qx (gNm 6) jt)))
  (jN 4 (d2 Ui (qe 4) (d1 ka (qe 6)))))
  (jE (qe 4)))))
noncomputable abbrev wN:List D->Out (D×List D):=ke yr [.val,.val,.val,.val] (wM)
abbrev zm P w K mg base cv:=DefOk P w K mg base cv 8 "how_many" ["words", "look", "room", "numbers"] [.val,.val,.val,.val] .sh (wN)
theorem KC (Z:Zt K mg cv ca) (T:qV K mg "how_many" wL ["words", "look", "room", "numbers"]) (ok_pairs:uJ P w K mg base cv) (ok_bar:GV P w K mg base cv) (ok_roots_of:zl P w K mg base cv):zm P w K mg base cv:=
 qI (k:=7) (own':=[]) (fb:=wM) T sc_how_many fun cdv f A outer s H E hr=>(qh (jk (qL qaO (ql ok_bar hr (by decide) qJ rfl (qc (vr 0) (qc (vr 1) (qc (vr 2) (qc (vr 3) qg))))) UF) (qm (qp qr)) qP)
  (qh (qM (i:=4) sc_how_many.nd rfl (Or.inl rfl) qr)
  (qh (kf PassesOwn.leaving rfl (qZ rfl (ql ok_roots_of hr (by decide) qJ rfl (qc (ql ok_pairs hr (by decide) qJ rfl (qc (vr 0) (qc (vr 1) qg))) (qc (vr 2) (qc (vr 3) qg))))) (vb rfl rfl (qG (qu (i:=5) sc_how_many.nd rfl (Or.inl rfl)) (qG (qu (i:=6) sc_how_many.nd rfl (Or.inl rfl)) jU)))
  (qm (qM (i:=4) sc_how_many.nd rfl (Or.inl rfl) (qO QQ (vr 4) (qH (jx rfl) rfl Z.z_len jr (vr 6))))))
  (qm (qp (vr 4))))))
abbrev wO:Stmt:=top 50
abbrev gf:List Str:=["_law_script", "_law_k"]
theorem KD:FnScope gf ["_law_script", "_law_k"] (qf wO):=⟨rfl,rfl,rfl,by decide +kernel,rfl,by decide +kernel,by decide +kernel⟩
noncomputable def vz:Sl->Out (Fl×Sl):=(qR (sIf (qN (d2 ltD (qe 1) (d1 ka (qe 0)))) (jE (d2 ixD (qe 0) (qe 1))) ji)
  (qR (sIf (qN (d2 eqD (qe 0) (xa qC))) (jE (dC (.int 0))) ji)
  (jE (d2 kz (d2 Ui (d2 ixD (qe 0) (d2 uX (qe 1) (d1 ka (qe 0)))) (dC (.int 31))) (qe 1)))))
noncomputable abbrev yt:List D->Out (D×List D):=ke gf [.val,.val] (vz)
abbrev zn P w K mg base cv:=DefOk P w K mg base cv 1 "_law_cell_at" ["_law_script", "_law_k"] [.val,.val] .sh (yt)
theorem KF (Z:Zt K mg cv ca) (T:qV K mg "_law_cell_at" wO ["_law_script", "_law_k"]):zn P w K mg base cv:=
 qI (k:=0) (own':=[]) (fb:=vz) T KD fun cdv f A outer s H E hr=>(qh (jk (qL qey (vr 1) (qH (jx rfl) rfl Z.z_len jr (vr 0))) (qm (qp (jb rfl hr.units (vr 0) (vr 1) (fun _ _=>rfl)))) qP)
  (qh (jk (qL (we rfl hr.units) (vr 0) (jZ qg)) (qm (qp qr)) qP)
  (qm (qp (qO (jA rfl) (qO QQ (jb rfl hr.units (vr 0) (qO kJ (vr 1) (qH (jx rfl) rfl Z.z_len jr (vr 0))) (fun _ _=>rfl)) qr) (vr 1))))))
abbrev xp:Stmt:=top 51
abbrev VX:List Str:=["_law_script", "_law_k", "_law_many", "_law_drawn"]
theorem sc_Lmixed:FnScope VX ["_law_script", "_law_k", "_law_many"] (qf xp):=⟨rfl,rfl,rfl,by decide +kernel,rfl,by decide +kernel,by decide +kernel⟩
noncomputable def Qh:Sl->Out (Fl×Sl):=(qR (jN 3 (d2 uX (d2 kz (d2 kz (d2 Ui (qt [.vl,.vl] yt (qd (qe 0) (qd (qe 1) qC))) (dC (.int 1103515245))) (d2 Ui (dC (.int 7919)) (qe 1))) (dC (.int 12345))) (dC (.int 2147483647))))
  (jE (d2 uX (d2 uX (d2 uX (d2 qeS (qe 3) (dC (.int 5))) (dC (.int 2147483647))) (dC (.int 999983))) (qe 2))))
noncomputable abbrev Qi:List D->Out (D×List D):=ke VX [.val,.val,.val] (Qh)
abbrev Jz P w K mg base cv:=DefOk P w K mg base cv 2 "_law_mixed" ["_law_script", "_law_k", "_law_many"] [.val,.val,.val] .sh (Qi)
theorem YX (Z:Zt K mg cv ca) (T:qV K mg "_law_mixed" xp ["_law_script", "_law_k", "_law_many"]) (ok_Lcell_at:zn P w K mg base cv):Jz P w K mg base cv:=
 qI (k:=1) (own':=[]) (fb:=Qh) T sc_Lmixed fun cdv f A outer s H E hr=>(qh (qM (i:=3) sc_Lmixed.nd rfl (Or.inl rfl) (qO kJ (qO (jA rfl) (qO (jA rfl) (qO QQ (ql ok_Lcell_at hr (by decide) qJ rfl (qc (vr 0) (qc (vr 1) qg))) qr) (qO QQ qr (vr 1))) qr) qr))
  (qm (qp (qO kJ (qO kJ (qO kJ (qO qc2 (vr 3) qr) qr) qr) (vr 2)))))
abbrev Qj:Stmt:=top 52
abbrev YY:List Str:=["_law_script", "_law_town", "_law_many"]
theorem ZZ:FnScope YY ["_law_script", "_law_town", "_law_many"] (qf Qj):=⟨rfl,rfl,rfl,by decide +kernel,rfl,by decide +kernel,by decide +kernel⟩
noncomputable def KG:Sl->Out (Fl×Sl):=(qR (kg (zX 1 zH (dC (.int 0))))
  (jE (qt [.vl,.vl,.vl] Qi (qd (qe 0) (qd (d1 ka (qe 1)) (qd (qe 2) qC))))))
noncomputable abbrev jv:List D->Out (D×List D):=ke YY [.val,.io,.val] (KG)
abbrev wP P w K mg base cv:=DefOk P w K mg base cv 3 "_law_draw" ["_law_script", "_law_town", "_law_many"] [.val,.io,.val] .sh (jv)
theorem Ga (Z:Zt K mg cv ca) (T:qV K mg "_law_draw" Qj ["_law_script", "_law_town", "_law_many"]) (ok_Lmixed:Jz P w K mg base cv):wP P w K mg base cv:=
 qI (k:=2) (own':=[1]) (fb:=KG) T ZZ fun cdv f A outer s H E hr=>(qh (jl (vo (i:=1) rfl rfl (Or.inl rfl) (by decide) qr))
  (qm (qp (ql ok_Lmixed hr (by decide) qJ rfl (qc (vr 0) (qc (qH (jx rfl) rfl Z.z_len jr (kc (i:=1) rfl (Or.inl rfl) (by decide))) (qc (vr 2) qg)))))))
abbrev Qk:Stmt:=top 53
abbrev YZ:List Str:=["_law_script", "_law_town", "_law_some"]
theorem Gb:FnScope YZ ["_law_script", "_law_town", "_law_some"] (qf Qk):=⟨rfl,rfl,rfl,by decide +kernel,rfl,by decide +kernel,by decide +kernel⟩
noncomputable def KH:Sl->Out (Fl×Sl):=(jE (d2 ixD (qe 2) (qt [.vl,.sl 1,.vl] jv (qd (qe 0) (jY (qd (d1 ka (qe 2)) qC))))))
noncomputable abbrev zo:List D->Out (D×List D):=ke YZ [.val,.io,.val] (KH)
abbrev Ql P w K mg base cv:=DefOk P w K mg base cv 4 "_law_pick" ["_law_script", "_law_town", "_law_some"] [.val,.io,.val] .sh (zo)
theorem Gc (Z:Zt K mg cv ca) (T:qV K mg "_law_pick" Qk ["_law_script", "_law_town", "_law_some"]) (ok_Ldraw:wP P w K mg base cv):Ql P w K mg base cv:=
 qI (k:=3) (own':=[1]) (fb:=KH) T Gb fun cdv f A outer s H E hr=>(qm (qp (jb rfl hr.units (vr 2) (ql ok_Ldraw hr (by decide) qJ rfl (qc (vr 0) (qW (i:=1) rfl (Or.inl rfl) (by decide) (qc (qH (jx rfl) rfl Z.z_len jr (vr 2)) qg)))) (fun _ _=>rfl))))
abbrev yu:Stmt:=top 54
abbrev KI:List Str:=["_law_script", "_law_town", "_law_letters_here", "_law_most"]
theorem Gd:FnScope KI ["_law_script", "_law_town", "_law_letters_here", "_law_most"] (qf yu):=⟨rfl,rfl,rfl,by decide +kernel,rfl,by decide +kernel,by decide +kernel⟩
noncomputable def KJ:Sl->Out (Fl×Sl):=(jE (d1 (zK "") (jn [1] 1 [0,1,2] (jH (d2 kz (dC (.int 1)) (qt [.vl,.sl 1,.vl] jv (qd (qe 0) (jY (qd (qe 3) qC)))))) (gNm 0) ftT (qt [.vl,.sl 2,.vl] zo (qd (qe 1) (jY (qd (qe 3) qC)))))))
noncomputable abbrev Qm:List D->Out (D×List D):=ke KI [.val,.io,.val,.val] (KJ)
abbrev VY P w K mg base cv:=DefOk P w K mg base cv 5 "_law_word" ["_law_script", "_law_town", "_law_letters_here", "_law_most"] [.val,.io,.val,.val] .sh (Qm)
theorem Ge (Z:Zt K mg cv ca) (T:qV K mg "_law_word" yu ["_law_script", "_law_town", "_law_letters_here", "_law_most"]) (ok_Ldraw:wP P w K mg base cv) (ok_Lpick:Ql P w K mg base cv):VY P w K mg base cv:=
 qI (k:=4) (own':=[1]) (fb:=KJ) T Gd fun cdv f A outer s H E hr=>(qm (qp (Yx rfl (jI (N:=["_law_k", "_law_script", "_law_town", "_law_letters_here"]) (nt:=1) (cap:=[0,1,2]) rfl (vZ (names:=(qf yu).names) rfl (by decide +kernel)) (jP (names:=(qf yu).names) (N:=KI) rfl rfl (by decide +kernel)) (vn rfl Z.z_range (qO (jA rfl) qr (ql ok_Ldraw hr (by decide) qJ rfl (qc (vr 0) (qW (i:=1) rfl (Or.inr (Or.inl rfl)) (by decide) (qc (vr 3) qg)))))) (fun fp L s1 H1=>(qu (i:=0) (show List.Nodup (["_law_k", "_law_script", "_law_town", "_law_letters_here"]:List Str) from by decide +kernel) rfl (Or.inl rfl))) (fun fp L s1 H1=>jm) (fun fp L s1 H1=>(ql ok_Lpick hr (by decide) yd rfl (qc (vr 1) (qW (i:=2) rfl (by first | exact Or.inr (Or.inr rfl) | exact Or.inr (Or.inl rfl)) (by decide) (qc (vr 3) qg)))))))))
abbrev xq:Stmt:=top 55
abbrev VZ:List Str:=["_law_script", "_law_town", "_law_most", "_law_letters_here", "_law_made", "_law_k", "_law_word_here"]
theorem sc_Lwords:FnScope VZ ["_law_script", "_law_town", "_law_most"] (qf xq):=⟨rfl,rfl,rfl,by decide +kernel,rfl,by decide +kernel,by decide +kernel⟩
noncomputable def Qn:Sl->Out (Fl×Sl):=(qR (jN 3 (qt [.vl,.sl 1,.vl] zo (qd (qe 0) (jY (qd (xa fun ρ=>.ok ([(.lst [(.str "a"),(.str "b")]),(.lst [(.str "a"),(.str "b"),(.str "c")]),(.lst [(.str "a"),(.str "b"),(.str "c"),(.str "d")]),(.lst [(.str "k"),(.str "m"),(.str "z"),(.str "a"),(.str "e")])],ρ)) qC)))))
  (qR (jN 4 (xa qC))
  (qR (QV (jH (d2 kz (dC (.int 1)) (qt [.vl,.sl 1,.vl] jv (qd (qe 0) (jY (qd (qe 2) qC)))))) (gNm 5)
  (qR (jN 6 (qt [.vl,.sl 1,.vl,.vl] Qm (qd (qe 0) (jY (qd (qe 3) (qd (dC (.int 6)) qC))))))
  (sIf (qN (d2 gG (qe 6) (qe 4))) (kg (zX 4 zH (qe 6))) ji)))
  (jE (d1 vW (qe 4))))))
noncomputable abbrev Qo:List D->Out (D×List D):=ke VZ [.val,.io,.val] (Qn)
abbrev JA P w K mg base cv:=DefOk P w K mg base cv 6 "_law_words" ["_law_script", "_law_town", "_law_most"] [.val,.io,.val] .sh (Qo)
theorem Xa (Z:Zt K mg cv ca) (T:qV K mg "_law_words" xq ["_law_script", "_law_town", "_law_most"]) (ok_Ldraw:wP P w K mg base cv) (ok_Lpick:Ql P w K mg base cv) (ok_Lword:VY P w K mg base cv):JA P w K mg base cv:=
 qI (k:=5) (own':=[1]) (fb:=Qn) T sc_Lwords fun cdv f A outer s H E hr=>(qh (qM (i:=3) sc_Lwords.nd rfl (Or.inl rfl) (ql ok_Lpick hr (by decide) qJ rfl (qc (vr 0) (qW (i:=1) rfl (Or.inl rfl) (by decide) (qc (qbf 16 rfl) qg)))))
  (qh (jF (i:=4) sc_Lwords.nd rfl (Or.inl rfl) (jZ qg))
  (qh (kf PassesOwn.leaving rfl (vn rfl Z.z_range (qO (jA rfl) qr (ql ok_Ldraw hr (by decide) qJ rfl (qc (vr 0) (qW (i:=1) rfl (Or.inl rfl) (by decide) (qc (vr 2) qg)))))) (qu (i:=5) sc_Lwords.nd rfl (Or.inl rfl))
  (qh (qM (i:=6) sc_Lwords.nd rfl (Or.inl rfl) (ql ok_Lword hr (by decide) qJ rfl (qc (vr 0) (qW (i:=1) rfl (Or.inl rfl) (by decide) (qc (vr 3) (qc qr qg))))))
  (qm (jk (qL (uD rfl hr.units) (vr 6) (kc (i:=4) rfl (Or.inl rfl) (by decide))) (qm (jl (vo (i:=4) rfl rfl (Or.inl rfl) (by decide) (vr 6)))) qP))))
  (qm (qp (jG (uC rfl) rfl Z.z_tuple kO (kc (i:=4) rfl (Or.inl rfl) (by decide))))))))
abbrev Qp:Stmt:=top 56
abbrev Xb:List Str:=["_law_script", "_law_town"]
theorem Gf:FnScope Xb ["_law_script", "_law_town"] (qf Qp):=⟨rfl,rfl,rfl,by decide +kernel,rfl,by decide +kernel,by decide +kernel⟩
noncomputable def KK:Sl->Out (Fl×Sl):=(jE (yE (qd (d2 JL (qt [.vl,.sl 1,.vl] jv (qd (qe 0) (jY (qd (dC (.int 6)) qC)))) (dC (.int 3))) (qd (d2 JL (qt [.vl,.sl 1,.vl] jv (qd (qe 0) (jY (qd (dC (.int 6)) qC)))) (dC (.int 3))) qC))))
noncomputable abbrev KL:List D->Out (D×List D):=ke Xb [.val,.io] (KK)
abbrev Wa P w K mg base cv:=DefOk P w K mg base cv 4 "_law_look" ["_law_script", "_law_town"] [.val,.io] .sh (KL)
theorem Gg (Z:Zt K mg cv ca) (T:qV K mg "_law_look" Qp ["_law_script", "_law_town"]) (ok_Ldraw:wP P w K mg base cv):Wa P w K mg base cv:=
 qI (k:=3) (own':=[1]) (fb:=KK) T Gf fun cdv f A outer s H E hr=>(qm (qp (kL (qc (qO xB (ql ok_Ldraw hr (by decide) qJ rfl (qc (vr 0) (qW (i:=1) rfl (Or.inl rfl) (by decide) (qc qr qg)))) qr) (qc (qO xB (ql ok_Ldraw hr (by decide) qJ rfl (qc (vr 0) (qW (i:=1) rfl (Or.inl rfl) (by decide) (qc qr qg)))) qr) qg)))))
abbrev Ua:Stmt:=top 57
abbrev qbr:List Str:=["_law_word_here", "_law_place", "_law_spots"]
theorem sc_Lat:FnScope qbr ["_law_word_here", "_law_place"] (qf Ua):=⟨rfl,rfl,rfl,by decide +kernel,rfl,by decide +kernel,by decide +kernel⟩
noncomputable def qde:Sl->Out (Fl×Sl):=(qR (jN 2 (jn [] 1 [1,0] (jH (d1 ka (qe 0))) (gNm 0) (dOr (qN (d2 eqD (qe 0) (qe 1))) (qN (d2 eqD (qe 0) (d2 kz (qe 1) (d1 ka (qe 2)))))) (qe 0)))
  (qR (sIf (qN (d2 neD (qe 2) (xa qC))) (jE (d2 ixD (qe 0) (d2 ixD (qe 2) (dC (.int 0))))) ji)
  (jE (dIf (qN (d2 geD (qe 1) (dC (.int 0)))) (d2 ixD (qe 0) (d1 WG (dC (.int 1)))) (d2 ixD (qe 0) (dC (.int 0)))))))
noncomputable abbrev Xc:List D->Out (D×List D):=ke qbr [.val,.val] (qde)
abbrev GX P w K mg base cv:=DefOk P w K mg base cv 1 "_law_at" ["_law_word_here", "_law_place"] [.val,.val] .sh (Xc)
theorem qdf (Z:Zt K mg cv ca) (T:qV K mg "_law_at" Ua ["_law_word_here", "_law_place"]):GX P w K mg base cv:=
 qI (k:=0) (own':=[]) (fb:=qde) T sc_Lat fun cdv f A outer s H E hr=>(qh (xg (N:=["_law_at_here", "_law_place", "_law_word_here"]) (nt:=1) (cap:=[1,0]) sc_Lat.nd (i:=2) rfl (Or.inl rfl) rfl (vZ (names:=(qf Ua).names) rfl (by decide +kernel)) (jP (names:=(qf Ua).names) (N:=qbr) rfl rfl (by decide +kernel)) (vn rfl Z.z_range (qH (jx rfl) rfl Z.z_len jr (vr 0))) (fun fp L s1 H1=>(qu (i:=0) (show List.Nodup (["_law_at_here", "_law_place", "_law_word_here"]:List Str) from by decide +kernel) rfl (Or.inl rfl))) (fun fp L s1 H1=>(gC (PW.pt (wU (qL (we rfl hr.units) (vr 0) (vr 1)) (ky (qL (we rfl hr.units) (vr 0) (qO (jA rfl) (vr 1) (qH (jx rfl) rfl Z.z_len jr (vr 2))))))))) (fun fp L s1 H1=>(vr 0)))
  (kK [2] (qh (jk (qL (xC rfl hr.units) (vr 2) (jZ qg)) (qm (qp (jb rfl hr.units (vr 0) (jb rfl hr.units (vr 2) qr (fun _ _=>rfl)) (fun _ _=>rfl)))) qP)
  (qm (qp (UN (qL qcG (vr 1) qr) (jb rfl hr.units (vr 0) (JZ xG qr) (fun _ _=>rfl)) (jb rfl hr.units (vr 0) qr (fun _ _=>rfl))))))))
abbrev yv:Stmt:=top 58
abbrev Qq:List Str:=["_law_words_here", "_law_look_here"]
theorem Gh:FnScope Qq ["_law_words_here", "_law_look_here"] (qf yv):=⟨rfl,rfl,rfl,by decide +kernel,rfl,by decide +kernel,by decide +kernel⟩
noncomputable def KM:Sl->Out (Fl×Sl):=(jE (jn [] 1 [1] (vj (qe 0)) (gNm 0) ftT (yE (qd (qt [.vl,.vl] Xc (qd (qe 0) (qd (d2 ixD (qe 1) (dC (.int 0))) qC))) (qd (qt [.vl,.vl] Xc (qd (qe 0) (qd (d2 ixD (qe 1) (dC (.int 1))) qC))) qC)))))
noncomputable abbrev zp:List D->Out (D×List D):=ke Qq [.val,.val] (KM)
abbrev Qr P w K mg base cv:=DefOk P w K mg base cv 2 "_law_seen" ["_law_words_here", "_law_look_here"] [.val,.val] .sh (zp)
theorem Gi (Z:Zt K mg cv ca) (T:qV K mg "_law_seen" yv ["_law_words_here", "_law_look_here"]) (ok_Lat:GX P w K mg base cv):Qr P w K mg base cv:=
 qI (k:=1) (own':=[]) (fb:=KM) T Gh fun cdv f A outer s H E hr=>(qm (qp (jI (N:=["_law_word_here", "_law_look_here"]) (nt:=1) (cap:=[1]) rfl (vZ (names:=(qf yv).names) rfl (by decide +kernel)) (jP (names:=(qf yv).names) (N:=Qq) rfl rfl (by decide +kernel)) (qZ rfl (vr 0)) (fun fp L s1 H1=>(qu (i:=0) (show List.Nodup (["_law_word_here", "_law_look_here"]:List Str) from by decide +kernel) rfl (Or.inl rfl))) (fun fp L s1 H1=>jm) (fun fp L s1 H1=>(kL (qc (ql ok_Lat hr (by decide) yd rfl (qc (vr 0) (qc (jb rfl hr.units (vr 1) qr (fun _ _=>rfl)) qg))) (qc (ql ok_Lat hr (by decide) yd rfl (qc (vr 0) (qc (jb rfl hr.units (vr 1) qr (fun _ _=>rfl)) qg))) qg)))))))
abbrev wQ:Stmt:=top 59
abbrev gh:List Str:=["_law_words_here", "_law_look_here", "_law_made", "_law_pair"]
theorem sc_Lletters:FnScope gh ["_law_words_here", "_law_look_here"] (qf wQ):=⟨rfl,rfl,rfl,by decide +kernel,rfl,by decide +kernel,by decide +kernel⟩
noncomputable def yw:Sl->Out (Fl×Sl):=(qR (jN 2 (xa qC))
  (qR (QV (vj (qt [.vl,.vl] zp (qd (qe 0) (qd (qe 1) qC)))) (gNm 3)
  (kg (zX 2 qdO (d1 WH (qe 3)))))
  (jE (d1 wG (qe 2)))))
noncomputable abbrev wR:List D->Out (D×List D):=ke gh [.val,.val] (yw)
abbrev zq P w K mg base cv:=DefOk P w K mg base cv 3 "_law_letters" ["_law_words_here", "_law_look_here"] [.val,.val] .sh (wR)
theorem KN (Z:Zt K mg cv ca) (T:qV K mg "_law_letters" wQ ["_law_words_here", "_law_look_here"]) (ok_Lseen:Qr P w K mg base cv):zq P w K mg base cv:=
 qI (k:=2) (own':=[]) (fb:=yw) T sc_Lletters fun cdv f A outer s H E hr=>(qh (jF (i:=2) sc_Lletters.nd rfl (Or.inl rfl) (jZ qg))
  (qh (kf PassesOwn.leaving rfl (qZ rfl (ql ok_Lseen hr (by decide) qJ rfl (qc (vr 0) (qc (vr 1) qg)))) (qu (i:=3) sc_Lletters.nd rfl (Or.inl rfl))
  (qm (jl (Yc (i:=2) rfl (Or.inl rfl) (by decide) (jG (Yd rfl) rfl Z.z_list xV (vr 3))))))
  (qm (qp (ga rfl rfl rfl Z.z_sorted xW rfl Z.z_set YL (kc (i:=2) rfl (Or.inl rfl) (by decide)))))))
abbrev Ub:Stmt:=top 60
abbrev Gj:List Str:=["_law_words_here", "_law_look_here", "_law_room", "_law_book"]
theorem qdg:FnScope Gj ["_law_words_here", "_law_look_here", "_law_room", "_law_book"] (qf Ub):=⟨rfl,rfl,rfl,by decide +kernel,rfl,by decide +kernel,by decide +kernel⟩
noncomputable def qbs:Sl->Out (Fl×Sl):=(jE (d1 vW (jn [] 2 [2,3] (vj (qt [.vl,.vl] zp (qd (qe 0) (qd (qe 1) qC)))) (ju 2 (qx (gNm 0) (qx (gNm 1) jt))) ftT (d2 uX (d2 kz (d2 ixD (qe 3) (qe 0)) (d2 ixD (qe 3) (qe 1))) (qe 2)))))
noncomputable abbrev qbt:List D->Out (D×List D):=ke Gj [.val,.val,.val,.val] (qbs)
abbrev GY P w K mg base cv:=DefOk P w K mg base cv 3 "_law_by" ["_law_words_here", "_law_look_here", "_law_room", "_law_book"] [.val,.val,.val,.val] .sh (qbt)
theorem qdh (Z:Zt K mg cv ca) (T:qV K mg "_law_by" Ub ["_law_words_here", "_law_look_here", "_law_room", "_law_book"]) (ok_Lseen:Qr P w K mg base cv):GY P w K mg base cv:=
 qI (k:=2) (own':=[]) (fb:=qbs) T qdg fun cdv f A outer s H E hr=>(qm (qp (jG (uC rfl) rfl Z.z_tuple kO (jI (N:=["_law_one", "_law_other", "_law_room", "_law_book"]) (nt:=2) (cap:=[2,3]) rfl (vZ (names:=(qf Ub).names) rfl (by decide +kernel)) (jP (names:=(qf Ub).names) (N:=Gj) rfl rfl (by decide +kernel)) (qZ rfl (ql ok_Lseen hr (by decide) qJ rfl (qc (vr 0) (qc (vr 1) qg)))) (fun fp L s1 H1=>(vb rfl rfl (qG (qu (i:=0) (show List.Nodup (["_law_one", "_law_other", "_law_room", "_law_book"]:List Str) from by decide +kernel) rfl (Or.inl rfl)) (qG (qu (i:=1) (show List.Nodup (["_law_one", "_law_other", "_law_room", "_law_book"]:List Str) from by decide +kernel) rfl (Or.inl rfl)) jU)))) (fun fp L s1 H1=>jm) (fun fp L s1 H1=>(qO kJ (qO (jA rfl) (jb rfl hr.units (vr 3) (vr 0) (fun _ _=>rfl)) (jb rfl hr.units (vr 3) (vr 1) (fun _ _=>rfl))) (vr 2)))))))
abbrev yx:Stmt:=top 61
abbrev Qs:List Str:=["_law_script", "_law_town", "_law_most", "_law_wide", "_law_spoil", "_law_room", "_law_look_here", "_law_names", "_law_book", "_law_numbers", "_law_k"]
theorem sc_Ltold:FnScope Qs ["_law_script", "_law_town", "_law_most", "_law_wide"] (qf yx):=⟨rfl,rfl,rfl,by decide +kernel,rfl,by decide +kernel,by decide +kernel⟩
noncomputable def KO:Sl->Out (Fl×Sl):=(qR (jN 4 (qt [.vl,.sl 1,.vl] jv (qd (qe 0) (jY (qd (dC (.int 4)) qC)))))
  (qR (jN 5 (d2 kz (dC (.int 1)) (qt [.vl,.sl 1,.vl] jv (qd (qe 0) (jY (qd (qe 3) qC))))))
  (qR (jN 6 (qt [.vl,.sl 1] KL (qd (qe 0) (jY qC))))
  (qR (jN 7 (qt [.vl,.sl 1,.vl] Qo (qd (qe 0) (jY (qd (qe 2) qC)))))
  (qR (jN 8 (d1 Jp (jn [1] 1 [0,1,5] (vj (qt [.vl,.vl] wR (qd (qe 7) (qd (qe 6) qC)))) (gNm 0) ftT (yE (qd (qe 0) (qd (qt [.vl,.sl 2,.vl] jv (qd (qe 1) (jY (qd (qe 3) qC)))) qC))))))
  (qR (jN 9 (d1 WH (qt [.vl,.vl,.vl,.vl] qbt (qd (qe 7) (qd (qe 6) (qd (qe 5) (qd (qe 8) qC)))))))
  (qR (QV (jH (d2 Ui (d2 gu (qe 4) (dC (.int 2))) (d2 kz (dC (.int 1)) (d2 uX (qe 4) (dC (.int 2)))))) (gNm 10)
  (VN 9 (qt [.vl,.sl 1,.vl] jv (qd (qe 0) (jY (qd (qe 5) qC)))) (qt [.vl,.sl 1,.vl] jv (qd (qe 0) (jY (qd (d1 ka (qe 9)) qC))))))
  (jE (yE (qd (qe 7) (qd (qe 6) (qd (qe 5) (qd (d1 vW (qe 9)) qC)))))))))))))
noncomputable abbrev KP:List D->Out (D×List D):=ke Qs [.val,.io,.val,.val] (KO)
abbrev Wb P w K mg base cv:=DefOk P w K mg base cv 7 "_law_told" ["_law_script", "_law_town", "_law_most", "_law_wide"] [.val,.io,.val,.val] .sh (KP)
theorem Gk (Z:Zt K mg cv ca) (T:qV K mg "_law_told" yx ["_law_script", "_law_town", "_law_most", "_law_wide"]) (ok_Ldraw:wP P w K mg base cv) (ok_Lwords:JA P w K mg base cv) (ok_Llook:Wa P w K mg base cv) (ok_Lletters:zq P w K mg base cv) (ok_Lby:GY P w K mg base cv):Wb P w K mg base cv:=
 qI (k:=6) (own':=[1]) (fb:=KO) T sc_Ltold fun cdv f A outer s H E hr=>(qh (qM (i:=4) sc_Ltold.nd rfl (Or.inl rfl) (ql ok_Ldraw hr (by decide) qJ rfl (qc (vr 0) (qW (i:=1) rfl (Or.inr (Or.inl rfl)) (by decide) (qc qr qg)))))
  (qh (qM (i:=5) sc_Ltold.nd rfl (Or.inr rfl) (qO (jA rfl) qr (ql ok_Ldraw hr (by decide) qJ rfl (qc (vr 0) (qW (i:=1) rfl (Or.inr (Or.inl rfl)) (by decide) (qc (vr 3) qg))))))
  (qh (qM (i:=6) sc_Ltold.nd rfl (Or.inl rfl) (ql ok_Llook hr (by decide) qJ rfl (qc (vr 0) (qW (i:=1) rfl (Or.inr (Or.inl rfl)) (by decide) qg))))
  (qh (qM (i:=7) sc_Ltold.nd rfl (Or.inl rfl) (ql ok_Lwords hr (by decide) qJ rfl (qc (vr 0) (qW (i:=1) rfl (Or.inr (Or.inl rfl)) (by decide) (qc (vr 2) qg)))))
  (qh (qM (i:=8) sc_Ltold.nd rfl (Or.inl rfl) (jG (ZT rfl rfl) rfl Z.z_dict qbm (jI (N:=["_law_letter", "_law_script", "_law_town", "_law_room"]) (nt:=1) (cap:=[0,1,5]) rfl (vZ (names:=(qf yx).names) rfl (by decide +kernel)) (jP (names:=(qf yx).names) (N:=Qs) rfl rfl (by decide +kernel)) (qZ rfl (ql ok_Lletters hr (by decide) qJ rfl (qc (vr 7) (qc (vr 6) qg)))) (fun fp L s1 H1=>(qu (i:=0) (show List.Nodup (["_law_letter", "_law_script", "_law_town", "_law_room"]:List Str) from by decide +kernel) rfl (Or.inl rfl))) (fun fp L s1 H1=>jm) (fun fp L s1 H1=>(kL (qc (vr 0) (qc (ql ok_Ldraw hr (by decide) yd rfl (qc (vr 1) (qW (i:=2) rfl (by first | exact Or.inr (Or.inr rfl) | exact Or.inr (Or.inl rfl)) (by decide) (qc (vr 3) qg)))) qg)))))))
  (qh (jF (i:=9) sc_Ltold.nd rfl (Or.inl rfl) (jG (Yd rfl) rfl Z.z_list xV (ql ok_Lby hr (by decide) qJ rfl (qc (vr 7) (qc (vr 6) (qc (vr 5) (qc (vr 8) qg)))))))
  (qh (kf PassesOwn.leaving rfl (vn rfl Z.z_range (qO QQ (qO gx (vr 4) qr) (qO (jA rfl) qr (qO kJ (vr 4) qr)))) (qu (i:=10) sc_Ltold.nd rfl (Or.inl rfl))
  (qm (YF (n:=9) rfl (Or.inl rfl) (by decide) (ql ok_Ldraw hr (by decide) qJ rfl (qc (vr 0) (qW (i:=1) rfl (Or.inr (Or.inl rfl)) (by decide) (qc (vr 5) qg)))) (ql ok_Ldraw hr (by decide) qJ rfl (qc (vr 0) (qW (i:=1) rfl (Or.inr (Or.inl rfl)) (by decide) (qc (qH (jx rfl) rfl Z.z_len jr (kc (i:=9) rfl (Or.inl rfl) (by decide))) qg)))))))
  (qm (qp (kL (qc (vr 7) (qc (vr 6) (qc (vr 5) (qc (jG (uC rfl) rfl Z.z_tuple kO (kc (i:=9) rfl (Or.inl rfl) (by decide))) qg))))))))))))))
abbrev KQ:Stmt:=top 62
abbrev Gm:List Str:=["_law_script", "_law_town", "_law_other", "_law_back", "_law_due", "_law_word_here", "_law_names", "_law_look_here", "_law_room", "_law_numbers", "_law_letters_here"]
theorem sc_law:FnScope Gm ["_law_script"] (qf KQ):=⟨rfl,rfl,rfl,by decide +kernel,rfl,by decide +kernel,by decide +kernel⟩
noncomputable def qbu:Sl->Out (Fl×Sl):=(qR (jN 1 (xa qC))
  (qR (qeD (qt [.vl,.sl 1,.vl,.vl] KP (qd (qe 0) (jY (qd (dC (.int 5)) (qd (dC (.int 6)) qC))))) (ju 4 (qx (gNm 6) (qx (gNm 7) (qx (gNm 8) (qx (gNm 9) jt))))))
  (qR (jN 2 (qt [.vl] uK (qd (qe 7) qC)))
  (qR (jN 3 (qt [.vl] vx (qd (qe 6) qC)))
  (qR (jN 4 (xa qC))
  (qR (QV (vj (qe 6)) (gNm 5)
  (qR (jN 10 (d1 Jn (qe 5)))
  (qR (kg (zX 4 zH (d1 (zK "") (jn [10,4,1] 1 [10] (jH (d1 ka (qe 5))) (gNm 0) ftT (Jo 1))))) ji)))
  (qR (sIf (dOr (qN (d2 neD (qe 3) (d1 vW (qe 4)))) (dOr (qN (d2 neD (qt [.vl] vx (qd (qe 3) qC)) (qe 6))) (qN (d2 neD (qt [.vl] uK (qd (qe 2) qC)) (qe 7))))) (jE (dC (.bl false))) ji)
  (qR (sIf (dOr (qN (d2 neD (d2 kz (d2 ixD (qe 7) (dC (.int 0))) (d2 ixD (qe 2) (dC (.int 0)))) (d1 WG (dC (.int 1))))) (qN (d2 neD (d2 kz (d2 ixD (qe 7) (dC (.int 1))) (d2 ixD (qe 2) (dC (.int 1)))) (d1 WG (dC (.int 1)))))) (jE (dC (.bl false))) ji)
  (qR (sIf (dOr (qN (d2 neD (qt [.vl,.vl] vN (qd (qe 3) (qd (qe 2) qC))) (qt [.vl,.vl] vN (qd (qe 6) (qd (qe 7) qC))))) (qN (d2 neD (qt [.vl,.vl] gS (qd (qe 3) (qd (qe 2) qC))) (qt [.vl,.vl] gS (qd (qe 6) (qd (qe 7) qC)))))) (jE (dC (.bl false))) ji)
  (jE (d2 eqD (qt [.vl,.vl,.vl,.vl] wN (qd (qe 3) (qd (qe 2) (qd (qe 8) (qd (qe 9) qC))))) (qt [.vl,.vl,.vl,.vl] wN (qd (qe 6) (qd (qe 7) (qd (qe 8) (qd (qe 9) qC))))))))))))))))
noncomputable abbrev Gn:List D->Out (D×List D):=ke Gm [.val] (qbu)
theorem qdi {f:Addr} {fd:FuncData} (Z:Zt K mg cv ca) (F:Fun K "law" "law" KQ f fd) (ok_pairs:uJ P w K mg base cv) (ok_alike:VQ P w K mg base cv) (ok_mirrored:zg P w K mg base cv) (ok_turned:Jv P w K mg base cv) (ok_how_many:zm P w K mg base cv) (ok_Ltold:Wb P w K mg base cv):FnOk P w K mg base (CXk P w) 9 f fd ["_law_script"] (spD K cv [.val] .sh (Gn)):=
 qfa (k:=8) (own':=[]) (fb:=qbu) F sc_law rfl (xz rfl) (.inl rfl) (fun cdv A outer s H E hr=>(qh (jF (i:=1) sc_law.nd rfl (Or.inl rfl) (jZ qg))
  (qh (qaY (ql ok_Ltold hr (by decide) qJ rfl (qc (vr 0) (qW (i:=1) rfl (Or.inl rfl) (by decide) (qc qr (qc qr qg))))) (vb rfl rfl (qG (qu (i:=6) sc_law.nd rfl (Or.inl rfl)) (qG (qu (i:=7) sc_law.nd rfl (Or.inl rfl)) (qG (qu (i:=8) sc_law.nd rfl (Or.inl rfl)) (qG (qu (i:=9) sc_law.nd rfl (Or.inl rfl)) jU))))))
  (qh (qM (i:=2) sc_law.nd rfl (Or.inl rfl) (ql ok_turned hr (by decide) qJ rfl (qc (vr 7) qg)))
  (qh (qM (i:=3) sc_law.nd rfl (Or.inl rfl) (ql ok_mirrored hr (by decide) qJ rfl (qc (vr 6) qg)))
  (qh (jF (i:=4) sc_law.nd rfl (Or.inl rfl) (jZ qg))
  (qh (kf PassesOwn.leaving rfl (qZ rfl (vr 6)) (qu (i:=5) sc_law.nd rfl (Or.inl rfl))
  (qh (jF (i:=10) sc_law.nd rfl (Or.inr rfl) (jG (ZO rfl) rfl Z.z_list xV (vr 5)))
  (qh (jl (vo (i:=4) rfl rfl (Or.inl rfl) (by decide) (Yx rfl (jI (N:=["_law_k", "_law_letters_here"]) (nt:=1) (cap:=[10]) rfl (vZ (names:=(qf KQ).names) rfl (by decide +kernel)) (jP (names:=(qf KQ).names) (N:=Gm) rfl rfl (by decide +kernel)) (vn rfl Z.z_range (qH (jx rfl) rfl Z.z_len jr (vr 5))) (fun fp L s1 H1=>(qu (i:=0) (show List.Nodup (["_law_k", "_law_letters_here"]:List Str) from by decide +kernel) rfl (Or.inl rfl))) (fun fp L s1 H1=>jm) (fun fp L s1 H1=>(qbh (i:=1) rfl (by first | exact Or.inr (Or.inr rfl) | exact Or.inr (Or.inl rfl)) (by decide)))))))
  (kK [10] qP))))
  (qh (jk (PW.pt (wU (qL (xC rfl hr.units) (vr 3) (jG (uC rfl) rfl Z.z_tuple kO (kc (i:=4) rfl (Or.inl rfl) (by decide)))) (wU (qL (xC rfl hr.units) (ql ok_mirrored hr (by decide) qJ rfl (qc (vr 3) qg)) (vr 6)) (ky (qL (xC rfl hr.units) (ql ok_turned hr (by decide) qJ rfl (qc (vr 2) qg)) (vr 7)))))) (qm (qp gt)) qP)
  (qh (jk (PW.pt (wU (qL (xC rfl hr.units) (qO (jA rfl) (jb rfl hr.units (vr 7) qr (fun _ _=>rfl)) (jb rfl hr.units (vr 2) qr (fun _ _=>rfl))) (JZ xG qr)) (ky (qL (xC rfl hr.units) (qO (jA rfl) (jb rfl hr.units (vr 7) qr (fun _ _=>rfl)) (jb rfl hr.units (vr 2) qr (fun _ _=>rfl))) (JZ xG qr))))) (qm (qp gt)) qP)
  (qh (jk (PW.pt (wU (qL (xC rfl hr.units) (ql ok_pairs hr (by decide) qJ rfl (qc (vr 3) (qc (vr 2) qg))) (ql ok_pairs hr (by decide) qJ rfl (qc (vr 6) (qc (vr 7) qg)))) (ky (qL (xC rfl hr.units) (ql ok_alike hr (by decide) qJ rfl (qc (vr 3) (qc (vr 2) qg))) (ql ok_alike hr (by decide) qJ rfl (qc (vr 6) (qc (vr 7) qg))))))) (qm (qp gt)) qP)
  (qm (qp (ut (we rfl hr.units) (ql ok_how_many hr (by decide) qJ rfl (qc (vr 3) (qc (vr 2) (qc (vr 8) (qc (vr 9) qg))))) (ql ok_how_many hr (by decide) qJ rfl (qc (vr 6) (qc (vr 7) (qc (vr 8) (qc (vr 9) qg)))))))))))))))))) fun _=>.inr rfl
end
end Kx
namespace Kx
open PySem PySem.Spec L2 L2.D2
theorem vC {α:Type} (xs:List α) (k:Nat):atI xs (k:Int)=xs[k]?:=by
 unfold atI ixN
 rw [if_pos (by omega)]
 by_cases h:k < xs.length
 ·rw [if_pos (by omega)]
  simp
 ·rw [if_neg (by omega),List.getElem?_eq_none (by omega)]
  rfl
theorem qdj {α:Type} {xs:List α} {i:Int} (h0:0<=i) (h1:i < xs.length):∃ d,atI xs i=some d/\d∈xs:=by
 obtain ⟨k,rfl⟩:=Int.eq_ofNat_of_zero_le h0
 have hk:k < xs.length:=by omega
 exact ⟨xs[k],by rw [vC,List.getElem?_eq_getElem hk],List.getElem_mem hk⟩
theorem big:2000<=sizeLine:=by rw [sizeLine_eq]; decide
abbrev scr (ns:List Int):D:=.lst (ns.map .int)
theorem qbv (ns:List Int) (k:Nat):∃ i,yt [scr ns,.int k]=.ok (.int i,[.non,.non]):=by
 by_cases h:k < ns.length
 ·refine ⟨ns[k],?_⟩
  refine runD_ap.trans ?_
  simp [vz,qw,ka,ltD,ixD,qv,h,vC]
 ·by_cases h0:ns=[]
  ·subst h0
   have hk:¬((k:Int) < 0):=by omega
   exact ⟨0,by refine runD_ap.trans ?_; simp [vz,qw,ka,ltD,ixD,qv,eqD,eqN,wc,hk]⟩
  ·have hp:0 < ns.length:=List.length_pos_iff.mpr h0
   have hm:k % ns.length < ns.length:=Nat.mod_lt _ hp
   have e:atI (ns.map D.int) ((k:Int) % (ns.length:Int))=some (.int ns[k % ns.length]):=by
    rw [show ((k:Int) % (ns.length:Int))=((k % ns.length:Nat):Int) by simp,vC,List.getElem?_map,List.getElem?_eq_getElem hm]
    rfl
   refine ⟨ns[k % ns.length] * 31+k,?_⟩
   refine runD_ap.trans ?_
   simp [vz,qw,ka,ltD,ixD,qv,eqD,eqN,h,h0,uX,Ui,kz,wT,hp,e,CMul]
theorem Go (ns:List Int) (k:Nat) {many:Int} (hm:0 < many):∃ r,0<=r/\r < many/\Qi [scr ns,.int k,.int many]=.ok (.int r,[.non,.non,.non]):=by
 obtain ⟨c,hc⟩:=qbv ns k
 have h1:=Int.emod_nonneg (c * 1103515245+7919 * k+12345) (show (2147483647:Int)≠0 by decide)
 have h2:=Int.emod_lt_of_pos (c * 1103515245+7919 * k+12345) (show (0:Int) < 2147483647 by decide)
 generalize hd:(c * 1103515245+7919 * (k:Int)+12345) % 2147483647=d at h1 h2
 have c1:L2.D2.qbT d 5:=⟨⟨by omega,by omega⟩,by omega,by omega⟩
 refine ⟨d ^ 5 % 2147483647 % 999983 % many,Int.emod_nonneg _ (by omega),Int.emod_lt_of_pos _ hm,?_⟩
 refine runD_ap.trans ?_
 simp [Qh,qw,qv,qB,je,hc,Ui,uX,kz,qeS,wT,hm,hd,c1,show ∀ j,CMul 7919 j from fun j=>.inl ⟨by omega,by omega⟩,show ∀ i,CMul i 1103515245 from fun i=>.inr ⟨by omega,by omega⟩]
theorem vi (ns:List Int) (town:List D) {many:Int} (hm:0 < many) (ht:town.length < 1000):∃ r,0<=r/\r < many/\jv [scr ns,.lst town,.int many]=.ok (.int r,[.non,.lst (town++[.int 0]),.non]):=by
 obtain ⟨r,h0,h1,h⟩:=Go ns (town.length+1) hm
 have hl:town.length < sizeLine:=Nat.lt_of_lt_of_le (Nat.lt_trans ht (by decide)) big
 refine ⟨r,h0,h1,?_⟩
 simp at h
 refine runD_ap.trans ?_
 simp [KG,qw,qv,qB,je,yc,zH,ka,hl,h]
theorem Xd (ns:List Int) (town xs:List D) (hx:xs≠[]) (ht:town.length < 1000):∃ d,d∈xs/\zo [scr ns,.lst town,.lst xs]=.ok (d,[.non,.lst (town++[.int 0]),.non]):=by
 have hp:0 < xs.length:=List.length_pos_iff.mpr hx
 obtain ⟨r,h0,h1,h⟩:=vi ns town (many:=(xs.length:Int)) (by omega) ht
 obtain ⟨d,e,hd⟩:=qdj (xs:=xs) h0 h1
 refine ⟨d,hd,?_⟩
 refine runD_ap.trans ?_
 simp [KH,qw,qv,qB,je,ka,h,ixD,e]
def az (c:Nat):Prop:=97<=c/\c<=122
def KR (w:Str):Prop:=1<=w.length/\w.length<=6/\∀ c∈w.cps.toList,az c
theorem zr (x:Str):x.length=x.cps.size:=rfl
theorem Xe (x y:Str):(x++y).cps=x.cps++y.cps:=rfl
def qd0 (ls:List Str):Prop:=ls≠[]/\∀ x∈ls,∃ c,az c/\x=⟨#[c]⟩
theorem JB:∀ cs:List Nat,Txt.join (Str.ofString "") (cs.map fun c=>(⟨#[c]⟩:Str))=⟨cs.toArray⟩:=by
 intro cs
 have e:∀ cs:List Nat,Str.join (Str.ofString "") (cs.map fun c=>(⟨#[c]⟩:Str))=⟨cs.toArray⟩:=by
  intro cs
  induction cs with
  | nil=>rfl
  | cons c cs ih=>
   cases cs with
   | nil=>rfl
   | cons d ds=>
    show (⟨#[c]⟩:Str)++Str.ofString ""++Str.join (Str.ofString "") ((d::ds).map fun c=>(⟨#[c]⟩:Str))=_
    rw [ih]
    have:((⟨#[c]⟩:Str)++Str.ofString ""++(⟨(d::ds).toArray⟩:Str)).cps=(c::d::ds).toArray:=by
     rw [Xe,Xe]
     have:(Str.ofString "").cps=#[]:=by decide +kernel
     rw [this]
     simp
    generalize h:(⟨#[c]⟩:Str)++Str.ofString ""++(⟨(d::ds).toArray⟩:Str)=x at this
    obtain ⟨y⟩:=x
    simp only at this
    rw [this]
 unfold Txt.join
 rw [StrLaws.glued_eq_join]
 exact e cs
theorem Qt:∀ cs:List Nat,((cs.map fun c=>(⟨#[c]⟩:Str)).map (·.length)).sum=cs.length
 | []=>rfl
 | c::cs=>by
  have ih:=Qt cs
  rw [List.map_cons,List.map_cons,List.sum_cons,ih,List.length_cons]
  show 1 + _=_
  omega
theorem vA:∀ ws:List Str,xP (ws.map D.str)=some ws
 | []=>rfl
 | w::ws=>by simp [xP,vA ws]
theorem JC (ns:List Int) {ls:List Str} (hl:qd0 ls):∀ (ds:List D) (town:List D) (k:Option D),town.length+ds.length < 1000 ->
  ∃ (cs:List Nat) (town':List D) (k':Option D),town'.length=town.length+ds.length/\cs.length=ds.length/\(∀ c∈cs,az c) /\
   jp (gNm 0) ftT (qt [.vl,.sl 2,.vl] zo (qd (qe 1) (jY (qd (qe 3) qC)))) ds [k,some (scr ns),some (.lst town),some (.lst (ls.map D.str))]
    = .ok ((cs.map fun c=>(⟨#[c]⟩:Str)).map D.str,[k',some (scr ns),some (.lst town'),some (.lst (ls.map D.str))])
 | [],town,k,_=>⟨[],town,k,by simp,rfl,by simp,rfl⟩
 | d::ds,town,k,ht=>by
  rw [List.length_cons] at ht
  obtain ⟨e,he,hp⟩:=Xd ns town (ls.map D.str) (by simpa using hl.1) (by omega)
  obtain ⟨x,hx,rfl⟩:=List.mem_map.mp he
  obtain ⟨c,hc,rfl⟩:=hl.2 x hx
  obtain ⟨cs,town',k',a1,a2,a3,a4⟩:=JC ns hl ds (town++[.int 0]) (some d) (by rw [List.length_append]; simp; omega)
  refine ⟨c::cs,town',k',?_,by simp [a2],?_,?_⟩
  ·rw [a1,List.length_append,List.length_cons]
   simp
   omega
  ·intro y hy
   rcases List.mem_cons.mp hy with rfl | hy
   ·exact hc
   ·exact a3 y hy
  ·simp [jp,yU,qB,je,hp,a4]
theorem qbw (ns:List Int) (town:List D) {ls:List Str} (hl:qd0 ls) (ht:town.length < 900):∃ w town',KR w/\town'.length<=town.length+8/\Qm [scr ns,.lst town,.lst (ls.map D.str),.int 6]=.ok (.str w,[.non,.lst town',.non,.non]):=by
 obtain ⟨r,r0,r1,hr⟩:=vi ns town (many:=6) (by omega) (by omega)
 have hlen:(xc 0 (1+r).toNat).length=(1+r).toNat:=by simp [xc]
 obtain ⟨cs,town',k',a1,a2,a3,a4⟩:=JC ns hl (xc 0 (1+r).toNat) (town++[.int 0]) none (by rw [hlen,List.length_append]; simp; omega)
 rw [hlen] at a1 a2
 rw [List.length_append] at a1
 simp at a1
 refine ⟨⟨cs.toArray⟩,town',⟨?_,?_,?_⟩,by omega,?_⟩
 ·show 1<=cs.toArray.size
  simp; omega
 ·show cs.toArray.size<=6
  simp; omega
 ·simpa using a3
 ·refine runD_ap.trans ?_
  have c1:-(2 ^ 62:Int)<=1+r/\1+r < 2 ^ 62:=by omega
  have hb:=big
  have hz:(xc 0 (1+r).toNat).length<=sizeLine:=by rw [hlen]; omega
  have e0:Str.length (Str.ofString "")=0:=by decide +kernel
  have hs:=Qt cs
  have hj:zK (Str.ofString "") (.lst ((cs.map fun c=>(⟨#[c]⟩:Str)).map D.str))=.ok (.str ⟨cs.toArray⟩):=by
   unfold zK
   simp only [vA,JB,hs]
   rw [if_pos ⟨by simp [e0]; omega,by show cs.toArray.size<=_; simp; omega⟩]
  simp only [KJ,qw,xR,Km,jn]
  simp [-List.map_map,qB,je,hr,jH,kz,-Int.reducePow,c1,hz,kh,a4,jq,hj,qv]
theorem uS (w:Str):∀ ws:List Str,JM 7 (.str w) (ws.map D.str)=some (decide (w∈ws))
 | []=>by simp [JM]
 | a::ws=>by
  have ih:=uS w ws
  simp only [List.map_cons,JM,ih]
  simp [eqN,eqS]
  by_cases h:a=w
  ·simp [h]
  ·simp [h,Ne.symm h]
def ja (ws:List Str):Prop:=1<=ws.length/\ws.length<=6/\ws.Nodup/\∀ w∈ws,KR w
abbrev Xf:Sl->Out (Fl×Sl):=(qR (jN 6 (qt [.vl,.sl 1,.vl,.vl] Qm (qd (qe 0) (jY (qd (qe 3) (qd (dC (.int 6)) qC))))))
  (sIf (qN (d2 gG (qe 6) (qe 4))) (kg (zX 4 zH (qe 6))) ji))
theorem yy (ns:List Int) (most:D) {ls:List Str} (hls:qd0 ls):∀ (ds:List D) (town:List D) (ws:List Str) (k u:Option D),town.length+8 * ds.length < 900->ws.length+ds.length<=100->ws.Nodup->(∀ w∈ws,KR w) ->
  ∃ (town':List D) (ws':List Str) (k' u':Option D),town'.length<=town.length+8 * ds.length/\ws'.length<=ws.length+ds.length/\ws.length<=ws'.length/\(ds≠[]->1<=ws'.length)/\ws'.Nodup/\(∀ w∈ws',KR w) /\
   vc (gNm 5) Xf ds [some (scr ns),some (.lst town),some most,some (.lst (ls.map D.str)),some (.lst (ws.map D.str)),k,u]=.ok (.nx,[some (scr ns),some (.lst town'),some most,some (.lst (ls.map D.str)),some (.lst (ws'.map D.str)),k',u'])
 | [],town,ws,k,u,_,_,hn,hw=>⟨town,ws,k,u,by simp,by simp,by simp,by simp,hn,hw,rfl⟩
 | d::ds,town,ws,k,u,ht,hl,hn,hw=>by
  rw [List.length_cons] at ht hl
  obtain ⟨w,t1,hW,ht1,hg⟩:=qbw ns town hls (by omega)
  have hb:=big
  have hz:ws.length < sizeLine:=by omega
  by_cases hm:w∈ws
  ·obtain ⟨town',ws',k',u',a1,a2,a3,a4,a5,a6,a7⟩:=yy ns most hls ds t1 ws (some d) (some (.str w)) (by omega) (by omega) hn hw
   refine ⟨town',ws',k',u',by rw [List.length_cons]; omega,by rw [List.length_cons]; omega,a3,fun _=>?_,a5,a6,?_⟩
   ·have:0 < ws.length:=List.length_pos_of_mem hm
    omega
   ·rw [<-a7]
    simp [vc,Xf,qB,je,hg,gG,WA,inD,uS,hm]
  ·obtain ⟨town',ws',k',u',a1,a2,a3,a4,a5,a6,a7⟩:=yy ns most hls ds t1 (ws++[w]) (some d) (some (.str w)) (by omega) (by rw [List.length_append]; simp; omega) (List.nodup_append.mpr ⟨hn,by simp,fun a ha b hb=>by
    rw [List.mem_singleton.mp hb]
    exact fun z=>hm (z ▸ ha)⟩) (fun x hx=>by
    rcases List.mem_append.mp hx with hx | hx
    ·exact hw x hx
    ·rw [List.mem_singleton.mp hx]
     exact hW)
   rw [List.length_append] at a2 a3
   simp at a2 a3
   refine ⟨town',ws',k',u',by rw [List.length_cons]; omega,by rw [List.length_cons]; omega,by omega,fun _=>by omega,a5,a6,?_⟩
   rw [<-a7]
   simp [vc,Xf,qB,je,hg,gG,WA,inD,uS,hm,yc,zH,hz]
noncomputable def LETS:List (List Str):=[["a", "b"],["a", "b", "c"],["a", "b", "c", "d"],["k", "m", "z", "a", "e"]]
theorem qbx:∀ ls∈LETS,qd0 ls:=by
 have h1:∀ ls∈LETS,∀ x∈ls,x∈(["a", "b", "c", "d", "k", "m", "z", "e"]:List Str):=by decide +kernel
 have h2:∀ ls∈LETS,ls≠[]:=by decide +kernel
 intro ls h
 refine ⟨h2 ls h,fun x hx=>?_⟩
 have h3:=h1 ls h x hx
 simp only [List.mem_cons,List.not_mem_nil,or_false] at h3
 rcases h3 with rfl | rfl | rfl | rfl | rfl | rfl | rfl | rfl
 ·exact ⟨97,by unfold az; decide,by decide +kernel⟩
 ·exact ⟨98,by unfold az; decide,by decide +kernel⟩
 ·exact ⟨99,by unfold az; decide,by decide +kernel⟩
 ·exact ⟨100,by unfold az; decide,by decide +kernel⟩
 ·exact ⟨107,by unfold az; decide,by decide +kernel⟩
 ·exact ⟨109,by unfold az; decide,by decide +kernel⟩
 ·exact ⟨122,by unfold az; decide,by decide +kernel⟩
 ·exact ⟨101,by unfold az; decide,by decide +kernel⟩
theorem Gp (ns:List Int) (town:List D) (ht:town.length < 700):∃ ws town',ja ws/\ws.length<=5/\town'.length<=town.length+50/\Qo [scr ns,.lst town,.int 5]=.ok (.tup (ws.map D.str),[.non,.lst town',.non]):=by
 obtain ⟨d,hd,hp⟩:=Xd ns town (LETS.map fun l=>.lst (l.map D.str)) (by simp [LETS]) (by omega)
 obtain ⟨ls,hls,rfl⟩:=List.mem_map.mp hd
 have hl:=qbx ls hls
 obtain ⟨r,r0,r1,hr⟩:=vi ns (town++[.int 0]) (many:=5) (by omega) (by rw [List.length_append]; simp; omega)
 have hlen:(xc 0 (1+r).toNat).length=(1+r).toNat:=by simp [xc]
 obtain ⟨town',ws',k',u',a1,a2,a3,a4,a5,a6,a7⟩:=yy ns (.int 5) hl (xc 0 (1+r).toNat) (town++[.int 0]++[.int 0]) [] none none (by rw [hlen,List.length_append,List.length_append]; simp; omega) (by rw [hlen]; simp; omega) List.nodup_nil (by simp)
 have hne:xc 0 (1+r).toNat≠[]:=fun z=>by
  rw [z] at hlen
  simp at hlen
  omega
 refine ⟨ws',town',⟨a4 hne,?_,a5,a6⟩,?_,?_,?_⟩
 ·rw [hlen] at a2
  simp at a2
  omega
 ·rw [hlen] at a2
  simp at a2
  omega
 ·rw [hlen,List.length_append,List.length_append] at a1
  simp at a1
  omega
 ·refine runD_ap.trans ?_
  have c1:-(2 ^ 62:Int)<=1+r/\1+r < 2 ^ 62:=by omega
  have hb:=big
  have hz:4<=sizeLine:=by omega
  simp only [List.append_assoc,List.cons_append,List.nil_append,List.map_nil] at a7 hr
  simp only [LETS,List.map_cons,List.map_nil] at hp
  simp [Qn,qw,qv,qB,je,hp,hr,jH,kz,-Int.reducePow,c1,hz,a7,vW]
def zR (p q:Int):Prop:=(-3<=p/\p<=2)/\-3<=q/\q<=2
theorem qby (ns:List Int) (town:List D) (ht:town.length < 900):∃ p q town',zR p q/\town'.length=town.length+2/\KL [scr ns,.lst town]=.ok (.tup [.int p,.int q],[.non,.lst town']):=by
 obtain ⟨r,r0,r1,hr⟩:=vi ns town (many:=6) (by omega) (by omega)
 obtain ⟨u,u0,u1,hu⟩:=vi ns (town++[.int 0]) (many:=6) (by omega) (by rw [List.length_append]; simp; omega)
 have hb:=big
 have hz:2<=sizeLine:=by omega
 refine ⟨r - 3,u - 3,town++[.int 0,.int 0],⟨⟨by omega,by omega⟩,by omega,by omega⟩,by simp,?_⟩
 refine runD_ap.trans ?_
 simp only [List.append_assoc,List.cons_append,List.nil_append] at hu
 simp [KK,qw,qv,qB,je,hr,hu,JL,wT,hz]
noncomputable def uT (n:Nat) (p:Int):Nat:=(max 0 (min (if 0<=p then p else (n:Int)+p) ((n:Int) - 1))).toNat
noncomputable def JO (w:Str) (p:Int):Str:=⟨#[(w.cps.toList[uT w.length p]?).getD 0]⟩
theorem yS {w:Str} (hw:KR w) (p:Int):kE [.str w,.int p]=.ok (.str (JO w p),[.non,.non]):=by
 have h1:=hw.1
 have hn:(w.cps.toList.length:Int)=w.length:=by simp [zr]
 have key:∀ q:Int,q=(if 0<=p then p else (w.length:Int)+p)->atI w.cps.toList (if 0 < (if (w.length:Int) - 1 < q then (w.length:Int) - 1 else q) then (if (w.length:Int) - 1 < q then (w.length:Int) - 1 else q) else 0)=some ((w.cps.toList[uT w.length p]?).getD 0):=by
  intro q hq
  have e:(if 0 < (if (w.length:Int) - 1 < q then (w.length:Int) - 1 else q) then (if (w.length:Int) - 1 < q then (w.length:Int) - 1 else q) else 0)=(uT w.length p:Int):=by
   unfold uT
   rw [<-hq]
   have:1<=(w.length:Int):=by omega
   generalize (w.length:Int)=n at *
   split <;> split <;> omega
  have hl:uT w.length p < w.cps.toList.length:=by
   have hn':w.cps.toList.length=w.length:=by simp [zr]
   rw [hn']
   unfold uT
   omega
  rw [e,vC,List.getElem?_eq_getElem hl]
  rfl
 refine runD_ap.trans ?_
 by_cases hp:0<=p
 ·have k:=key p (by rw [if_pos hp])
  simp [vM,qw,qv,geD,wT,hp,qdP,qdQ,JL,ka,ixD,k,JO]
 ·have k:=key (w.length+p) (by rw [if_neg hp])
  simp [vM,qw,qv,geD,wT,hp,qdP,qdQ,JL,kz,ka,ixD,k,JO]
theorem zt {w:Str} (h:KR w):(∃ a,w=⟨#[a]⟩)\/(∃ a b,w=⟨#[a,b]⟩)\/(∃ a b c,w=⟨#[a,b,c]⟩)\/(∃ a b c d,w=⟨#[a,b,c,d]⟩)\/(∃ a b c d e,w=⟨#[a,b,c,d,e]⟩)\/∃ a b c d e f,w=⟨#[a,b,c,d,e,f]⟩:=by
 obtain ⟨⟨l⟩⟩:=w
 have h1:1<=l.length:=h.1
 have h2:l.length<=6:=h.2.1
 match l,h1,h2 with
 | [a],_,_=>exact .inl ⟨a,rfl⟩
 | [a,b],_,_=>exact .inr (.inl ⟨a,b,rfl⟩)
 | [a,b,c],_,_=>exact .inr (.inr (.inl ⟨a,b,c,rfl⟩))
 | [a,b,c,d],_,_=>exact .inr (.inr (.inr (.inl ⟨a,b,c,d,rfl⟩)))
 | [a,b,c,d,e],_,_=>exact .inr (.inr (.inr (.inr (.inl ⟨a,b,c,d,e,rfl⟩))))
 | [a,b,c,d,e,f],_,_=>exact .inr (.inr (.inr (.inr (.inr ⟨a,b,c,d,e,f,rfl⟩))))
theorem JD {w:Str} (hw:KR w) {p:Int} (h0:-3<=p) (h1:p<=2):Xc [.str w,.int p]=.ok (.str (JO w p),[.non,.non]):=by
 have hp:p=-3\/p=-2\/p=-1\/p=0\/p=1\/p=2:=by omega
 rcases zt hw with ⟨a,rfl⟩ | ⟨a,b,rfl⟩ | ⟨a,b,c,rfl⟩ | ⟨a,b,c,d,rfl⟩ | ⟨a,b,c,d,e,rfl⟩ | ⟨a,b,c,d,e,f,rfl⟩ <;> rcases hp with rfl | rfl | rfl | rfl | rfl | rfl <;> kernel_rfl
theorem yz {own:List Nat} (ρc:Sl):∀ (cap:List Nat) (n:Nat) (ρ:Sl),(∀ k∈cap,k∉own)->jq own ρc n cap ρ=ρ
 | [],n,ρ,_=>rfl
 | k::cap,n,ρ,h=>by
  unfold jq
  rw [if_neg (h k (List.mem_cons_self ..))]
  exact yz ρc cap (n+1) ρ fun x hx=>h x (List.mem_cons_of_mem _ hx)
theorem qdk {fe:Sl->Out (D×Sl)} {ft:Sl->Out (Bool×Sl)} {P:D->Bool} {F:D->D} {caps:Sl}:∀ (ds:List D) (x:Option D),(∀ d∈ds,ft (some d::caps)=.ok (P d,some d::caps))->(∀ d∈ds,P d=true->fe (some d::caps)=.ok (F d,some d::caps))->∃ x',jp (gNm 0) ft fe ds (x::caps)=.ok ((ds.filter P).map F,x'::caps)
 | [],x,_,_=>⟨x,rfl⟩
 | d::ds,x,h,h'=>by
  obtain ⟨x',e⟩:=qdk ds (some d) (fun d' hd=>h d' (List.mem_cons_of_mem _ hd)) fun d' hd=>h' d' (List.mem_cons_of_mem _ hd)
  refine ⟨x',?_⟩
  have h1:=h d (List.mem_cons_self ..)
  have h2:=h' d (List.mem_cons_self ..)
  cases q:P d with
  | true=>simp [jp,yU,h1,q,h2 q,e]
  | false=>simp [jp,yU,h1,q,e]
theorem GZ {own:List Nat} {cap:List Nat} {fi:Sl->Out (List D×Sl)} {fe:Sl->Out (D×Sl)} {ft:Sl->Out (Bool×Sl)} {ρ ρ1:Sl} {ds:List D} (P:D->Bool) (F:D->D) (ho:∀ k∈cap,k∉own) (h:fi ρ=.ok (ds,ρ1)) (hl:ds.length<=sizeLine)
  (ht:∀ d∈ds,ft (some d::cap.map fun k=>(ρ1[k]?).getD none)=.ok (P d,some d::cap.map fun k=>(ρ1[k]?).getD none)) (he:∀ d∈ds,P d=true->fe (some d::cap.map fun k=>(ρ1[k]?).getD none)=.ok (F d,some d::cap.map fun k=>(ρ1[k]?).getD none)) :
  jn own 1 cap fi (gNm 0) ft fe ρ=.ok (.lst ((ds.filter P).map F),ρ1):=by
 obtain ⟨x',e⟩:=qdk ds none ht he
 unfold jn
 rw [h]
 simp only [vf]
 rw [if_pos hl,show kh 1 cap ρ1=none::cap.map fun k=>(ρ1[k]?).getD none from rfl,e]
 simp only [vf,yz _ _ _ _ ho]
theorem qbz {own:List Nat} {cap:List Nat} {fi:Sl->Out (List D×Sl)} {fe:Sl->Out (D×Sl)} {ρ ρ1:Sl} {ds:List D} (F:D->D) (ho:∀ k∈cap,k∉own) (h:fi ρ=.ok (ds,ρ1)) (hl:ds.length<=sizeLine) (ht:∀ d∈ds,fe (some d::cap.map fun k=>(ρ1[k]?).getD none)=.ok (F d,some d::cap.map fun k=>(ρ1[k]?).getD none)) :
  jn own 1 cap fi (gNm 0) ftT fe ρ=.ok (.lst (ds.map F),ρ1):=by
 have e:=GZ (ft:=ftT) (fun _=>true) F ho h hl (fun _ _=>rfl) fun d hd _=>ht d hd
 rw [List.filter_eq_self.mpr fun _ _=>rfl] at e
 exact e
theorem uU {cap:List Nat} {fi:Sl->Out (List D×Sl)} {fe:Sl->Out (D×Sl)} {ρ ρ1:Sl} {ds:List D} (F:D->D) (h:fi ρ=.ok (ds,ρ1)) (hl:ds.length<=sizeLine) (ht:∀ d∈ds,fe (some d::cap.map fun k=>(ρ1[k]?).getD none)=.ok (F d,some d::cap.map fun k=>(ρ1[k]?).getD none)) :
  jn [] 1 cap fi (gNm 0) ftT fe ρ=.ok (.lst (ds.map F),ρ1):=qbz F (fun _ _=>by simp) h hl ht
theorem qaa {fe:Sl->Out (D×Sl)} {ft:Sl->Out (Bool×Sl)} {P:D×D->Bool} {F:D×D->D} {caps:Sl}:∀ (ps:List (D×D)) (x y:Option D),(∀ p∈ps,ft (some p.1::some p.2::caps)=.ok (P p,some p.1::some p.2::caps))->(∀ p∈ps,P p=true->fe (some p.1::some p.2::caps)=.ok (F p,some p.1::some p.2::caps)) ->
  ∃ x' y',jp (ju 2 (qx (gNm 0) (qx (gNm 1) jt))) ft fe (ps.map fun p=>.tup [p.1,p.2]) (x::y::caps)=.ok ((ps.filter P).map F,x'::y'::caps)
 | [],x,y,_,_=>⟨x,y,rfl⟩
 | p::ps,x,y,h,h'=>by
  obtain ⟨x',y',e⟩:=qaa ps (some p.1) (some p.2) (fun d' hd=>h d' (List.mem_cons_of_mem _ hd)) fun d' hd=>h' d' (List.mem_cons_of_mem _ hd)
  refine ⟨x',y',?_⟩
  have h1:=h p (List.mem_cons_self ..)
  have h2:=h' p (List.mem_cons_self ..)
  cases q:P p with
  | true=>simp [jp,yU,ju,qx,jt,h1,q,h2 q,e]
  | false=>simp [jp,yU,ju,qx,jt,h1,q,e]
theorem Xg {own:List Nat} {cap:List Nat} {fi:Sl->Out (List D×Sl)} {fe:Sl->Out (D×Sl)} {ft:Sl->Out (Bool×Sl)} {ρ ρ1:Sl} {ps:List (D×D)} (P:D×D->Bool) (F:D×D->D) (ho:∀ k∈cap,k∉own) (h:fi ρ=.ok (ps.map fun p=>.tup [p.1,p.2],ρ1)) (hl:ps.length<=sizeLine)
  (ht:∀ p∈ps,ft (some p.1::some p.2::cap.map fun k=>(ρ1[k]?).getD none)=.ok (P p,some p.1::some p.2::cap.map fun k=>(ρ1[k]?).getD none))
  (he:∀ p∈ps,P p=true->fe (some p.1::some p.2::cap.map fun k=>(ρ1[k]?).getD none)=.ok (F p,some p.1::some p.2::cap.map fun k=>(ρ1[k]?).getD none)) :
  jn own 2 cap fi (ju 2 (qx (gNm 0) (qx (gNm 1) jt))) ft fe ρ=.ok (.lst ((ps.filter P).map F),ρ1):=by
 obtain ⟨x',y',e⟩:=qaa ps none none ht he
 unfold jn
 rw [h]
 simp only [vf]
 rw [if_pos (by rw [List.length_map]; exact hl),show kh 2 cap ρ1=none::none::cap.map fun k=>(ρ1[k]?).getD none from rfl,e]
 simp only [vf,yz _ _ _ _ ho]
noncomputable def qK (ws:List Str) (p q:Int):List (Str×Str):=ws.map fun w=>(JO w p,JO w q)
noncomputable def jh (l:List (Str×Str)):List D:=l.map fun x=>.tup [.str x.1,.str x.2]
theorem jy {n:Nat} (h:n<=2000):n<=sizeLine:=Nat.le_trans h big
abbrev Wd (ws:List Str):D:=.tup (ws.map D.str)
abbrev Ld (p q:Int):D:=.tup [.int p,.int q]
theorem gi {G:List D->Out (D×List D)} {ws:List Str} (hw:ja ws) {p q:Int} (hG:∀ w∈ws,G [.str w,.int p]=.ok (.str (JO w p),[.non,.non])/\G [.str w,.int q]=.ok (.str (JO w q),[.non,.non])) :
  jn [] 1 [1] (vj (qe 0)) (gNm 0) ftT (yE (qd (qt [.vl,.vl] G (qd (qe 0) (qd (d2 ixD (qe 1) (dC (.int 0))) qC))) (qd (qt [.vl,.vl] G (qd (qe 0) (qd (d2 ixD (qe 1) (dC (.int 1))) qC))) qC))) [some (Wd ws),some (Ld p q)]
   = .ok (.lst (jh (qK ws p q)),[some (Wd ws),some (Ld p q)]):=by
 have e:=uU (cap:=[1]) (fi:=vj (qe 0)) (ρ:=[some (Wd ws),some (Ld p q)]) (ρ1:=[some (Wd ws),some (Ld p q)]) (ds:=ws.map D.str)
  (fe:=(yE (qd (qt [.vl,.vl] G (qd (qe 0) (qd (d2 ixD (qe 1) (dC (.int 0))) qC))) (qd (qt [.vl,.vl] G (qd (qe 0) (qd (d2 ixD (qe 1) (dC (.int 1))) qC))) qC))))
  (fun d=>match d with | .str w=>.tup [.str (JO w p),.str (JO w q)] | d=>d) (by simp [jQ]) (by rw [List.length_map]; exact jy (by have:=hw.2.1; omega)) (fun d hd=>by
   obtain ⟨w,hm,rfl⟩:=List.mem_map.mp hd
   obtain ⟨h1,h2⟩:=hG w hm
   have hz:2<=sizeLine:=jy (by omega)
   simp [qB,je,ixD,atI,ixN,h1,h2,hz])
 rw [e]
 simp [jh,qK]
theorem zu {ws:List Str} (hw:ja ws) {p q:Int} (hl:zR p q):zp [Wd ws,Ld p q]=.ok (.lst (jh (qK ws p q)),[.non,.non]):=by
 refine runD_ap.trans ?_
 have e:=gi (G:=Xc) hw (p:=p) (q:=q) fun w hm=>⟨JD (hw.2.2.2 w hm) hl.1.1 hl.1.2,JD (hw.2.2.2 w hm) hl.2.1 hl.2.2⟩
 unfold KM
 rw [xR,show qw Qq [Wd ws,Ld p q]=[some (Wd ws),some (Ld p q)] from rfl,e]
 rfl
def Pl:D->Prop
 | .raw _=>False
 | .xcp _=>False
 | .ins _ _=>False
 | .dct _=>False
 | .at_ _ _=>False
 | _=>True
@[simp] theorem kk1:jS "NoneType" "int"=some false:=by decide +kernel
@[simp] theorem kk2:jS "bool" "int"=some true:=by decide +kernel
@[simp] theorem kk3:jS "int" "int"=some true:=by decide +kernel
@[simp] theorem kk4:jS "str" "int"=some false:=by decide +kernel
@[simp] theorem kk5:jS "tuple" "int"=some false:=by decide +kernel
@[simp] theorem kk6:jS "list" "int"=some false:=by decide +kernel
@[simp] theorem kb1:jS "NoneType" "bool"=some false:=by decide +kernel
@[simp] theorem kb2:jS "bool" "bool"=some true:=by decide +kernel
@[simp] theorem kb3:jS "int" "bool"=some false:=by decide +kernel
@[simp] theorem kb4:jS "str" "bool"=some false:=by decide +kernel
@[simp] theorem kb5:jS "tuple" "bool"=some false:=by decide +kernel
@[simp] theorem kb6:jS "list" "bool"=some false:=by decide +kernel
@[simp] theorem ks1:jS "NoneType" "str"=some false:=by decide +kernel
@[simp] theorem ks2:jS "bool" "str"=some false:=by decide +kernel
@[simp] theorem ks3:jS "int" "str"=some false:=by decide +kernel
@[simp] theorem ks4:jS "str" "str"=some true:=by decide +kernel
@[simp] theorem ks5:jS "tuple" "str"=some false:=by decide +kernel
@[simp] theorem ks6:jS "list" "str"=some false:=by decide +kernel
@[simp] theorem kt1:jS "NoneType" "tuple"=some false:=by decide +kernel
@[simp] theorem kt2:jS "bool" "tuple"=some false:=by decide +kernel
@[simp] theorem kt3:jS "int" "tuple"=some false:=by decide +kernel
@[simp] theorem kt4:jS "str" "tuple"=some false:=by decide +kernel
@[simp] theorem kt5:jS "tuple" "tuple"=some true:=by decide +kernel
@[simp] theorem kt6:jS "list" "tuple"=some false:=by decide +kernel
noncomputable def qbA:D->Bool
 | .tup _=>true
 | _=>false
noncomputable def isInt:D->Bool
 | .int _=>true
 | .bl _=>true
 | _=>false
theorem qdl {d:D} (h:Pl d):zF "tuple" d=.ok (.bl (qbA d)):=by cases d <;> first | exact h.elim | simp [zF,tyN,qbA]
noncomputable def qab:D->Bool
 | .str x=>decide (x.length=1)&&(!ud x "a"&&!ud "z" x)
 | _=>false
noncomputable def KS (lo hi:Int):D->Bool
 | .int i=>decide (lo<=i)&&decide (i<=hi)
 | _=>false
theorem JE {d:D} (h:Pl d):vI [d]=.ok (.bl (qab d),[.non]):=by
 refine runD_ap.trans ?_
 cases d <;> first
  | exact h.elim
  | (simp [kD,qw,qv,zF,tyN,qab]; done)
  | skip
 rename_i x
 by_cases h1:x.length=1
 ·have h1':(x.length:Int)=1:=by omega
  cases h2:ud x "a" <;> simp [kD,qw,zF,tyN,ka,eqD,eqN,eqS,leD,qv,qab,h1,h1',h2]
 ·have h1':¬(x.length:Int)=1:=by omega
  simp [kD,qw,zF,tyN,ka,eqD,eqN,eqS,leD,qv,qab,h1,h1']
theorem kq {d:D} (h:Pl d) (lo hi:Int):jo [d,.int lo,.int hi]=.ok (.bl (KS lo hi d),[.non,.non,.non]):=by
 refine runD_ap.trans ?_
 cases d <;> first
  | exact h.elim
  | (simp [kQ,qw,qv,zF,tyN,KS,uY]; done)
  | skip
 rename_i i
 by_cases h1:lo<=i <;> simp [kQ,qw,zF,tyN,leD,qv,KS,uY,h1]
theorem qdm {c:Nat} (h:az c):qab (.str ⟨#[c]⟩)=true:=by
 have ha:(Str.ofString "a").cps.toList=[97]:=by decide +kernel
 have hz:(Str.ofString "z").cps.toList=[122]:=by decide +kernel
 obtain ⟨h1,h2⟩:=h
 have l1:¬([c]:List Nat) < [97]:=by
  rw [List.cons_lt_cons_iff]
  simp
  omega
 have l2:¬([122]:List Nat) < [c]:=by
  rw [List.cons_lt_cons_iff]
  simp
  omega
 have e1:ud ⟨#[c]⟩ (Str.ofString "a")=false:=by
  unfold ud
  rw [ha]
  exact decide_eq_false l1
 have e2:ud (Str.ofString "z") ⟨#[c]⟩=false:=by
  unfold ud
  rw [hz]
  exact decide_eq_false l2
 simp [qab,zr,e1,e2]
theorem gj {α:Type} (f:α->Bool):∀ l:List α,yG (l.map fun x=>.bl (f x))=some (l.map f)
 | []=>rfl
 | a::l=>by
  have ih:=gj f l
  simp [yG,ih]
theorem Qu {α:Type} (f:α->Bool) (l:List α):Zw (.lst (l.map fun x=>.bl (f x)))=.ok (.bl (l.all f)):=by
 simp only [Zw,gj]
 simp [List.all_map,Function.comp_def]
theorem Xh {w:Str} (hw:KR w) (p:Int):∃ c,az c/\JO w p=⟨#[c]⟩:=by
 have hn:w.cps.toList.length=w.length:=by simp [zr]
 have hl:uT w.length p < w.cps.toList.length:=by
  have:=hw.1
  rw [hn]
  unfold uT
  omega
 refine ⟨w.cps.toList[uT w.length p],hw.2.2 _ (List.getElem_mem hl),?_⟩
 unfold JO
 rw [List.getElem?_eq_getElem hl]
 rfl
theorem Uc {w:Str} (hw:KR w):uH [.str w]=.ok (.bl true,[.non]):=by
 refine runD_ap.trans ?_
 have e:=uU (cap:=[]) (fi:=vj (qe 0)) (ρ:=[some (.str w)]) (ρ1:=[some (.str w)]) (ds:=vd w) (fe:=qt [.vl] vI (qd (qe 0) qC)) (fun d=>.bl (qab d)) (by simp [jQ]) (by
   have:=hw.2.1
   simp [vd,<-zr]
   exact jy (by omega)) (fun d hd=>by
   obtain ⟨c,hc,rfl⟩:=List.mem_map.mp hd
   have h1:=JE (d:=.str ⟨#[c]⟩) trivial
   simp [qB,je,h1])
 have ha:(vd w).all qab=true:=by
  rw [List.all_eq_true]
  intro d hd
  obtain ⟨c,hc,rfl⟩:=List.mem_map.mp hd
  exact qdm (hw.2.2 c hc)
 have h1:(1:Int)<=w.length:=by have:=hw.1; omega
 have h6:(w.length:Int)<=6:=by have:=hw.2.1; omega
 simp only [xZ,qw,List.map_cons,List.map_nil,List.length_cons,List.length_nil,Nat.reduceAdd,Nat.sub_self,List.replicate_zero,List.append_nil]
 simp [zF,tyN,uY,ka,leD,h1,h6,e,Qu,ha,qv]
theorem zv:∀ (ws ks:List Str),ws.Nodup->(∀ x∈ws,x∉ks)->ws.foldl kI ks=ks++ws
 | [],ks,_,_=>by simp
 | w::ws,ks,hn,hd=>by
  have h1:=List.nodup_cons.mp hn
  rw [List.foldl_cons,show kI ks w=ks++[w] from if_neg (hd w (List.mem_cons_self ..)),zv ws (ks++[w]) h1.2 ?_]
  ·simp
  ·intro x hx z
   rcases List.mem_append.mp z with z | z
   ·exact hd x (List.mem_cons_of_mem _ hx) z
   ·rw [List.mem_singleton.mp z] at hx
    exact h1.1 hx
theorem uV (ws:List Str):∀ ks:List Str,ks.Nodup->(ws.foldl kI ks).Nodup/\∀ x,x∈ws.foldl kI ks↔x∈ks\/x∈ws:=by
 induction ws with
 | nil=>intro ks hn; exact ⟨hn,fun x=>by simp⟩
 | cons w ws ih=>
  intro ks hn
  have hn2:(kI ks w).Nodup:=by
   unfold kI
   split
   ·exact hn
   ·rename_i h
    exact List.nodup_append.mpr ⟨hn,by simp,fun a ha b hb=>by
     rw [List.mem_singleton.mp hb]
     exact fun z=>h (z ▸ ha)⟩
  obtain ⟨a,b⟩:=ih (kI ks w) hn2
  refine ⟨a,fun x=>?_⟩
  rw [List.foldl_cons,b x]
  unfold kI
  split
  ·rename_i h
   constructor
   ·rintro (q | q)
    ·exact .inl q
    ·exact .inr (List.mem_cons_of_mem _ q)
   ·rintro (q | q)
    ·exact .inl q
    ·rcases List.mem_cons.mp q with rfl | q
     ·exact .inl h
     ·exact .inr q
  ·simp [List.mem_append,or_assoc]
theorem KU {ws:List Str} (hw:ja ws):yi [.tup (ws.map D.str)]=.ok (.bl true,[.non]):=by
 refine runD_ap.trans ?_
 have e:=uU (cap:=[]) (fi:=vj (qe 0)) (ρ:=[some (.tup (ws.map D.str))]) (ρ1:=[some (.tup (ws.map D.str))]) (ds:=ws.map D.str) (fe:=qt [.vl] uH (qd (qe 0) qC)) (fun d=>.bl true) (by simp [jQ]) (by
   rw [List.length_map]
   exact jy (by have:=hw.2.1; omega)) (fun d hd=>by
   obtain ⟨w,hm,rfl⟩:=List.mem_map.mp hd
   have h1:=Uc (hw.2.2.2 w hm)
   simp [qB,je,h1])
 have h1:(1:Int)<=ws.length:=by have:=hw.1; omega
 have h6:(ws.length:Int)<=6:=by have:=hw.2.1; omega
 have hf:ws.foldl kI []=ws:=by rw [zv ws [] hw.2.2.1 (by simp)]; simp
 have h4:ws.length < 4000:=by omega
 have ha:=Qu (fun _:D=>true) (ws.map D.str)
 simp only [yh,qw,List.map_cons,List.map_nil,List.length_cons,List.length_nil,Nat.reduceAdd,Nat.sub_self,List.replicate_zero,List.append_nil]
 simp [-List.map_map,zF,tyN,uY,ka,leD,h1,h6,e,ha,qv,gJ,yK,vA,hf,h4,eqD,eqN,eqS]
theorem wX {ws:List Str} (hw:ja ws):kl [.tup (ws.map D.str)]=.ok (.non,[.non]):=by
 refine runD_ap.trans ?_
 have h:=KU hw
 simp [vJ,qw,qv,qB,je,h,uY]
theorem Ud {p q:Int} (hl:zR p q):zd [.tup [.int p,.int q]]=.ok (.bl true,[.non]):=by
 refine runD_ap.trans ?_
 have e:=uU (cap:=[]) (fi:=vj (qe 0)) (ρ:=[some (.tup [.int p,.int q])]) (ρ1:=[some (.tup [.int p,.int q])]) (ds:=[.int p,.int q]) (fe:=qt [.vl,.vl,.vl] jo (qd (qe 0) (qd (dC (.int (-3))) (qd (dC (.int 2)) qC)))) (fun d=>.bl (KS (-3) 2 d)) (by simp [jQ]) (jy (by simp)) (fun d hd=>by
   have hd:d=.int p\/d=.int q:=by simpa using hd
   have h1:=kq (d:=.int p) trivial (-3) 2
   have h2:=kq (d:=.int q) trivial (-3) 2
   rcases hd with rfl | rfl
   ·simp [qB,je,h1]
   ·simp [qB,je,h2])
 have b1:KS (-3) 2 (.int p)=true:=by simp [KS]; exact hl.1
 have b2:KS (-3) 2 (.int q)=true:=by simp [KS]; exact hl.2
 simp only [zc,qw,List.map_cons,List.map_nil,List.length_cons,List.length_nil,Nat.reduceAdd,Nat.sub_self,List.replicate_zero,List.append_nil]
 simp [zF,tyN,uY,ka,neD,eqN,eqS,e,Zw,yG,b1,b2,qv]
theorem uW {p q:Int} (hl:zR p q):kS [.tup [.int p,.int q]]=.ok (.non,[.non]):=by
 refine runD_ap.trans ?_
 have h:=Ud hl
 simp [wj,qw,qv,qB,je,h,uY]
theorem xu {ws:List Str} (hw:ja ws) {p q:Int} (hl:zR p q):vN [Wd ws,Ld p q]=.ok (.lst (jh (qK ws p q)),[.non,.non]):=by
 refine runD_ap.trans ?_
 have e:=gi (G:=kE) hw (p:=p) (q:=q) fun w hm=>⟨yS (hw.2.2.2 w hm) p,yS (hw.2.2.2 w hm) q⟩
 have c1:=wX hw
 have c2:=uW hl
 simp only [Ku,qw,List.map_cons,List.map_nil,List.length_cons,List.length_nil,Nat.reduceAdd,Nat.sub_self,List.replicate_zero,List.append_nil]
 simp [qB,je,c1,c2,e,qv]
theorem Xi {a b:List Str} (ha:a.Nodup) (hb:b.Nodup) (h:∀ x,x∈a↔x∈b):a.Perm b:=(List.perm_ext_iff_of_nodup ha hb).mpr h
theorem Xj {a b:List Str} (h:∀ x,x∈a↔x∈b):kb (a.foldl kI [])=kb (b.foldl kI []):=by
 obtain ⟨n1,m1⟩:=uV a [] List.nodup_nil
 obtain ⟨n2,m2⟩:=uV b [] List.nodup_nil
 have p:=Xi n1 n2 fun x=>by
  rw [m1,m2,h]
 exact xO ((qQ _).trans (p.trans (qQ _).symm)) (kN _) (kN _)
noncomputable def LS (l:List (Str×Str)):List Str:=kb ((l.map (·.1)++l.map (·.2)).foldl kI [])
theorem mem_LS {l:List (Str×Str)} {x:Str}:x∈LS l↔∃ p∈l,x=p.1\/x=p.2:=by
 unfold LS
 rw [(qQ _).mem_iff,(uV _ [] List.nodup_nil).2]
 simp only [List.not_mem_nil,false_or,List.mem_append,List.mem_map]
 constructor
 ·rintro (⟨p,hp,rfl⟩ | ⟨p,hp,rfl⟩)
  ·exact ⟨p,hp,.inl rfl⟩
  ·exact ⟨p,hp,.inr rfl⟩
 ·rintro ⟨p,hp,rfl | rfl⟩
  ·exact .inl ⟨p,hp,rfl⟩
  ·exact .inr ⟨p,hp,rfl⟩
theorem Qv {l:List (Str×Str)} (hl:l.length<=20):kY [.lst (jh l)]=.ok (.lst ((LS l).map D.str),[.non]):=by
 refine runD_ap.trans ?_
 have hz:(jh l).length<=sizeLine:=by
  unfold jh
  rw [List.length_map]
  exact jy (by omega)
 have e1:=uU (cap:=[]) (fi:=vj (qe 0)) (ρ:=[some (.lst (jh l))]) (ρ1:=[some (.lst (jh l))]) (ds:=jh l) (fe:=d2 ixD (qe 0) (dC (.int 0))) (fun d=>match d with | .tup [a,b]=>a | d=>d) (by simp [jQ]) hz (fun d hd=>by
   obtain ⟨x,hx,rfl⟩:=List.mem_map.mp hd
   simp [ixD,atI,ixN])
 have e2:=uU (cap:=[]) (fi:=vj (qe 0)) (ρ:=[some (.lst (jh l))]) (ρ1:=[some (.lst (jh l))]) (ds:=jh l) (fe:=d2 ixD (qe 0) (dC (.int 1))) (fun d=>match d with | .tup [a,b]=>b | d=>d) (by simp [jQ]) hz (fun d hd=>by
   obtain ⟨x,hx,rfl⟩:=List.mem_map.mp hd
   simp [ixD,atI,ixN])
 have f1:(jh l).map (fun d=>match d with | .tup [a,b]=>a | d=>d)=(l.map (·.1)).map D.str:=by simp [jh]
 have f2:(jh l).map (fun d=>match d with | .tup [a,b]=>b | d=>d)=(l.map (·.2)).map D.str:=by simp [jh]
 rw [f1] at e1
 rw [f2] at e2
 have hs:l.length+l.length<=sizeLine:=jy (by omega)
 have h64:l.length+l.length < 64:=by omega
 simp only [wu,qw,List.map_cons,List.map_nil,List.length_cons,List.length_nil,Nat.reduceAdd,Nat.sub_self,List.replicate_zero,List.append_nil,xR,Km,qeJ,e1,e2,vf]
 simp only [kz,List.length_map,if_pos hs,qeF,vf,<-List.map_append,wG,yK,vA,List.length_append,if_pos h64]
 simp [qv,LS]
theorem Wc:∀ l:List (Str×Str),(l.flatMap fun p=>[p.1,p.2]).length=2 * l.length
 | []=>rfl
 | a::l=>by
  rw [List.flatMap_cons,List.length_append,Wc l,List.length_cons]
  simp
  omega
theorem at0 {a:D} {l:List D}:atI (a::l) 0=some a:=by
 have:=vC (a::l) 0
 simpa using this
theorem at1 {a b:D} {l:List D}:atI (a::b::l) 1=some b:=by
 have:=vC (a::b::l) 1
 simpa using this
noncomputable def prL (l:List (Str×Int)):List D:=l.map fun x=>.tup [.str x.1,.int x.2]
noncomputable def zw (l:List (Str×Int)):List Str:=l.map (·.1)
noncomputable def bk (l:List (Str×Int)):List (Key×D):=l.map fun x=>(.inr x.1,.int x.2)
theorem JF:∀ l:List (Str×Int),yI (prL l)=some (bk l)
 | []=>rfl
 | x::l=>by
  have ih:=JF l
  unfold prL at ih ⊢
  rw [List.map_cons]
  simp [yI,ZA,QA,ih,bk]
theorem Xk:∀ (l:List (Str×Int)) (a:List (Key×D)),(zw l).Nodup->(∀ x∈l,∀ p∈a,p.1≠.inr x.1)->(bk l).foldl (fun a p=>Kf a p.1 p.2) a=a++bk l
 | [],a,_,_=>by simp [bk]
 | x::l,a,hn,hd=>by
  have h1:=List.nodup_cons.mp (show (x.1::zw l).Nodup from hn)
  have hp:Kf a (.inr x.1) (.int x.2)=a++[(.inr x.1,.int x.2)]:=by
   unfold Kf
   rw [if_neg]
   simp only [List.any_eq_true,decide_eq_true_eq,not_exists,not_and]
   exact fun p hp=>hd x (List.mem_cons_self ..) p hp
  have ih:=Xk l (a++[(.inr x.1,.int x.2)]) h1.2 (fun y hy p hp=>by
   rcases List.mem_append.mp hp with hp | hp
   ·exact hd y (List.mem_cons_of_mem _ hy) p hp
   ·rw [List.mem_singleton.mp hp]
    intro z
    have z:x.1=y.1:=Sum.inr.inj z
    exact h1.1 (z ▸ List.mem_map.mpr ⟨y,hy,rfl⟩))
  show ((bk l).foldl (fun a p=>Kf a p.1 p.2) (Kf a (.inr x.1) (.int x.2)))=a++(.inr x.1,.int x.2)::bk l
  rw [hp,ih]
  simp
noncomputable def JP (l:List (Str×Int)) (x:Str):Int:=((l.find? fun y=>decide (y.1=x)).map (·.2)).getD 0
theorem Xl:∀ {l:List (Str×Int)} {x:Str},x∈zw l->(x,JP l x)∈l/\(bk l).find? (fun kv=>decide (kv.1=Sum.inr x))=some (.inr x,.int (JP l x))
 | [],x,h=>by cases h
 | a::l,x,h=>by
  by_cases e:a.1=x
  ·have hv:JP (a::l) x=a.2:=by simp [JP,e]
   rw [hv]
   refine ⟨?_,?_⟩
   ·rw [<-e]
    exact List.mem_cons_self ..
   ·simp [bk,e]
  ·have hx:x∈zw l:=by
    rcases List.mem_cons.mp (show x∈a.1::zw l from h) with z | z
    ·exact absurd z.symm e
    ·exact z
   obtain ⟨h1,h2⟩:=Xl hx
   have hv:JP (a::l) x=JP l x:=by simp [JP,e]
   rw [hv]
   refine ⟨List.mem_cons_of_mem _ h1,?_⟩
   rw [<-h2]
   simp [bk,e]
theorem qdn {l:List (Str×Int)} {x:Str} (h:x∈zw l):ixD (.dct (bk l)) (.str x)=.ok (.int (JP l x)):=by
 simp [ixD,(Xl h).2]
theorem Qw {d:D} (h:Pl d):wl [d]=if KS 1 99 d=true then .ok (.non,[.non]) else .exc "NoRoom" [some .non]:=by
 refine runD_ap.trans ?_
 have h1:=kq h 1 99
 have hz:1<=sizeLine:=jy (by omega)
 cases e:KS 1 99 d <;> simp [wk,qw,qv,qB,je,h1,e,uY,yb]
noncomputable def qdo (l:List (Str×Int)) (s:List (Str×Str)) (r:Int):List D:=s.map fun x=>.int ((JP l x.1+JP l x.2) % r)
theorem qD {ms:List PM} {f g:Sl->Out (Fl×Sl)} {ρ ρ1:Sl} (h:f ρ=.ok (.nx,ρ1)):QB ms (qR f g ρ)=QB ms (g ρ1):=by
 rw [Kn,h]
 rfl
abbrev qdp:Sl->Out (Fl×Sl):=(kg (zX 2 qdO (d1 WH (qe 3))))
theorem JG (a b:Option D):∀ (l:List (Str×Str)) (made:List Str) (x:Option D),made.length+2 * l.length<=1000->∃ x',vc (gNm 3) qdp (jh l) [a,b,some (.lst (made.map D.str)),x]=.ok (.nx,[a,b,some (.lst ((made++l.flatMap fun p=>[p.1,p.2]).map D.str)),x'])
 | [],made,x,_=>⟨x,by simp [jh,vc]⟩
 | p::l,made,x,h=>by
  rw [List.length_cons] at h
  obtain ⟨x',e⟩:=JG a b l (made++[p.1,p.2]) (some (.tup [.str p.1,.str p.2])) (by rw [List.length_append]; simp; omega)
  refine ⟨x',?_⟩
  have hz:2<=sizeLine:=jy (by omega)
  have hz2:made.length+2<=sizeLine:=jy (by omega)
  rw [show (made++(p::l).flatMap fun p=>[p.1,p.2])=(made++[p.1,p.2])++l.flatMap fun p=>[p.1,p.2] by simp,<-e]
  simp [jh,vc,qdp,yc,qdO,WH,hz,hz2]
theorem zO {ws:List Str} (hw:ja ws) {p q:Int} (hl:zR p q):wR [Wd ws,Ld p q]=.ok (.lst ((LS (qK ws p q)).map D.str),[.non,.non]):=by
 refine runD_ap.trans ?_
 have h1:=zu hw hl
 have hn:(qK ws p q).length<=6:=by simp [qK]; exact hw.2.1
 obtain ⟨x',e⟩:=JG (some (Wd ws)) (some (Ld p q)) (qK ws p q) [] none (by simp; omega)
 have hf:((qK ws p q).flatMap fun p=>[p.1,p.2]).length < 64:=by
  rw [Wc]
  omega
 have hs:kb (((qK ws p q).flatMap fun p=>[p.1,p.2]).foldl kI [])=LS (qK ws p q):=Xj fun x=>by
  simp only [List.mem_flatMap,List.mem_append,List.mem_map,List.mem_cons,List.not_mem_nil,or_false]
  constructor
  ·rintro ⟨p,hp,rfl | rfl⟩
   ·exact .inl ⟨p,hp,rfl⟩
   ·exact .inr ⟨p,hp,rfl⟩
  ·rintro (⟨p,hp,rfl⟩ | ⟨p,hp,rfl⟩)
   ·exact ⟨p,hp,.inl rfl⟩
   ·exact ⟨p,hp,.inr rfl⟩
 simp only [List.map_nil,List.nil_append] at e
 simp [yw,qw,qv,qB,je,h1,jQ]
 rw [e]
 simp only [vf,Km,Kl,List.getElem?_cons_succ,List.getElem?_cons_zero,wG,yK,vA,if_pos hf,hs]
 simp [qv]
theorem Xm {ws:List Str} (hw:ja ws) {p q:Int} (hl:zR p q) {r:Int} (hr:0 < r) {l:List (Str×Int)} (hk:∀ x∈LS (qK ws p q),x∈zw l):qbt [Wd ws,Ld p q,.int r,.dct (bk l)]=.ok (.tup (qdo l (qK ws p q) r),[.non,.non,.non,.non]):=by
 refine runD_ap.trans ?_
 have h1:=zu hw hl
 have hn:(qK ws p q).length<=6:=by simp [qK]; exact hw.2.1
 have e:=Xg (own:=[]) (cap:=[2,3]) (fi:=vj (qt [.vl,.vl] zp (qd (qe 0) (qd (qe 1) qC)))) (ft:=ftT) (fe:=d2 uX (d2 kz (d2 ixD (qe 3) (qe 0)) (d2 ixD (qe 3) (qe 1))) (qe 2))
  (ρ:=[some (Wd ws),some (Ld p q),some (.int r),some (.dct (bk l))]) (ρ1:=[some (Wd ws),some (Ld p q),some (.int r),some (.dct (bk l))]) (ps:=(qK ws p q).map fun x=>(.str x.1,.str x.2)) (fun _=>true) (fun d=>match d with | (.str a,.str b)=>.int ((JP l a+JP l b) % r) | _=>.non) (by simp)
  (by simp [qB,je,h1,jQ,jh]) (by rw [List.length_map]; exact jy (by omega)) (fun _ _=>rfl) (fun d hd _=>by
   obtain ⟨x,hx,rfl⟩:=List.mem_map.mp hd
   have j1:=qdn (hk x.1 (mem_LS.mpr ⟨x,hx,.inl rfl⟩))
   have j2:=qdn (hk x.2 (mem_LS.mpr ⟨x,hx,.inr rfl⟩))
   simp [j1,j2,kz,uX,wT,hr])
 rw [List.filter_eq_self.mpr (fun _ _=>rfl)] at e
 have f:((qK ws p q).map fun x=>(D.str x.1,D.str x.2)).map (fun d=>match d with | (.str a,.str b)=>.int ((JP l a+JP l b) % r) | _=>.non)=qdo l (qK ws p q) r:=by simp [qdo]
 rw [f] at e
 unfold qbs
 rw [xR,Km,show qw Gj [Wd ws,Ld p q,.int r,.dct (bk l)]=[some (Wd ws),some (Ld p q),some (.int r),some (.dct (bk l))] from rfl,e]
 simp [vW,qv]
theorem gk (ns:List Int) {room:Int} (hr:0 < room):∀ (Ls:List Str) (town:List D) (x:Option D),town.length+Ls.length < 1000 ->
  ∃ (es:List (Str×Int)) (town':List D) (x':Option D),zw es=Ls/\(∀ e∈es,0<=e.2/\e.2 < room)/\town'.length=town.length+Ls.length /\
   jp (gNm 0) ftT (yE (qd (qe 0) (qd (qt [.vl,.sl 2,.vl] jv (qd (qe 1) (jY (qd (qe 3) qC)))) qC))) (Ls.map D.str) [x,some (scr ns),some (.lst town),some (.int room)]=.ok (prL es,[x',some (scr ns),some (.lst town'),some (.int room)])
 | [],town,x,_=>⟨[],town,x,rfl,by simp,by simp,rfl⟩
 | a::Ls,town,x,h=>by
  rw [List.length_cons] at h
  obtain ⟨r,r0,r1,hd⟩:=vi ns town (many:=room) hr (by omega)
  obtain ⟨es,town',x',a1,a0,a2,a3⟩:=gk ns hr Ls (town++[.int 0]) (some (.str a)) (by rw [List.length_append]; simp; omega)
  have z2:2<=sizeLine:=jy (by omega)
  refine ⟨(a,r)::es,town',x',by simp [zw] at a1 ⊢; exact a1,fun e he=>?_,by rw [a2,List.length_append]; simp; omega,?_⟩
  ·rcases List.mem_cons.mp he with rfl | he
   ·exact ⟨r0,r1⟩
   ·exact a0 e he
  ·simp [jp,yU,qB,je,hd,z2,a3,prL]
theorem qac {ws:List Str} (hw:ja ws) (p q:Int):(LS (qK ws p q)).length<=12:=by
 have hs:(qK ws p q).length<=6:=by simp [qK]; exact hw.2.1
 unfold LS
 rw [(qQ _).length_eq]
 have:=uE ((qK ws p q).map (·.1)++(qK ws p q).map (·.2)) []
 simp only [List.length_append,List.length_map,List.length_nil] at this
 omega
theorem qeT {ws:List Str} (hw:ja ws) (p q:Int):∀ x∈LS (qK ws p q),∃ c,az c/\x=⟨#[c]⟩:=fun x hx=>by
 obtain ⟨y,hy,h⟩:=mem_LS.mp hx
 obtain ⟨w,hm,rfl⟩:=List.mem_map.mp hy
 rcases h with rfl | rfl
 ·exact Xh (hw.2.2.2 w hm) p
 ·exact Xh (hw.2.2.2 w hm) q
abbrev Pr:=Str×Str
abbrev Wk:=List Nat
noncomputable def inL (l:Wk):List D:=l.map fun (k:Nat)=>.int (k:Nat)
abbrev lD (l:Wk):D:=.lst (inL l)
abbrev nD (ns:List Int):D:=.tup (ns.map D.int)
abbrev pD (p:Pr):D:=.tup [.str p.1,.str p.2]
noncomputable def nI (ns:List Int) (k:Nat):Int:=(ns[k]?).getD 0
theorem qdq {ns:List Int} {k:Nat} (h:k < ns.length):ixD (nD ns) (.int (k:Nat))=.ok (.int (nI ns k)):=by
 unfold ixD nI
 simp only []
 rw [vC,List.getElem?_map,List.getElem?_eq_getElem h]
 rfl
noncomputable def yA (ns:List Int) (t:Int) (l:Wk):Int:=l.foldl (fun a k=>nI ns k - a) t
def qbX (nd:D) (ns:List Int):Prop:=∀ k:Nat,k < ns.length->ixD nd (.int (k:Nat))=.ok (.int (nI ns k))
theorem qad (ns:List Int):qbX (nD ns) ns:=fun _ h=>qdq h
theorem gl {nd:D} {ns:List Int} (hnd:qbX nd ns) {a s:Option D}:∀ (l:Wk) (t:Int) (x:Option D),(∀ k∈l,k < ns.length)->∃ x',vc (gNm 4) (jN 3 (d2 JL (d2 ixD (qe 1) (qe 4)) (qe 3))) (inL l) [a,some nd,s,some (.int t),x]=.ok (.nx,[a,some nd,s,some (.int (yA ns t l)),x'])
 | [],t,x,_=>⟨x,rfl⟩
 | k::l,t,x,h=>by
  have hk:=hnd k (h k (List.mem_cons_self ..))
  obtain ⟨x',e⟩:=gl hnd (a:=a) (s:=s) l (nI ns k - t) (some (.int (k:Nat))) fun j hj=>h j (List.mem_cons_of_mem _ hj)
  refine ⟨x',?_⟩
  have e0:yA ns t (k::l)=yA ns (nI ns k - t) l:=rfl
  rw [e0,<-e]
  simp [inL,vc,hk,JL,wT]
theorem zx {nd:D} {ns:List Int} (hnd:qbX nd ns) {l:Wk} (h:∀ k∈l,k < ns.length) (t:Int):wI [lD l,nd,.int t]=.ok (.int (yA ns t l),[.non,.non,.non]):=by
 obtain ⟨x',e⟩:=gl hnd (a:=some (lD l)) (s:=some (.int t)) l t none h
 refine runD_ap.trans ?_
 unfold yo
 rw [show qw yn [lD l,nd,.int t]=[some (lD l),some nd,some (.int t),none,none] from rfl]
 refine (qD (ρ1:=[some (lD l),some nd,some (.int t),some (.int t),none]) (by simp)).trans ?_
 refine (qD (ρ1:=[some (lD l),some nd,some (.int t),some (.int (yA ns t l)),x']) (by rw [vF]; exact e)).trans ?_
 simp [qv]
noncomputable def odd (l:Wk):Bool:=decide (l.length % 2=1)
theorem zy (l:Wk):vQ [lD l]=.ok (.bl (odd l),[.non]):=by
 refine runD_ap.trans ?_
 have h:((inL l).length:Int) % 2=((l.length % 2:Nat):Int):=by simp [inL]
 by_cases q:l.length % 2=1
 ·simp [xl,qw,ka,uX,wT,eqD,eqN,eqS,qv,h,odd,q]
 ·have q':¬((l.length % 2:Nat):Int)=1:=by omega
  simp [xl,qw,ka,uX,wT,eqD,eqN,eqS,qv,h,odd,q,q']
  omega
noncomputable def qbY (l:Wk) (r:Int) (ns:List Int):Bool:=if odd l=true then decide (r % 2=0)&&decide (yA ns 0 l % 2=1) else !decide (yA ns 0 l % r=0)
theorem qbB {nd:D} {ns:List Int} (hnd:qbX nd ns) {l:Wk} (h:∀ k∈l,k < ns.length) {r:Int} (hr:1<=r):VV [lD l,.int r,nd]=.ok (.bl (qbY l r ns),[.non,.non,.non]):=by
 have h1:=zx hnd h 0
 have h2:=zy l
 have hr':0 < r:=by omega
 refine runD_ap.trans ?_
 unfold qbY
 generalize yA ns 0 l=t at h1
 cases q:odd l with
 | true=>
  rw [q] at h2
  by_cases e1:r % 2=0 <;> simp [VU,qw,qB,je,h1,h2,uY,uX,wT,eqD,eqN,eqS,qv,e1] <;> rfl
 | false=>
  rw [q] at h2
  simp [VU,qw,qB,je,h1,h2,uY,uX,wT,neD,eqN,eqS,qv,hr']
  rfl
abbrev Wy:=List (Str×Str×Wk)
noncomputable def wD (W:Wy):List (Key×D):=W.map fun e=>(.inr e.1,.tup [.str e.2.1,lD e.2.2])
noncomputable def kW (W:Wy):List Str:=W.map (·.1)
theorem qae (W:Wy) (x:Str):ZB (wD W) (.inr x)=decide (x∈kW W):=by
 unfold ZB wD kW
 induction W with
 | nil=>rfl
 | cons e W ih=>
  rw [List.map_cons,List.any_cons,ih]
  by_cases h:e.1=x
  ·subst h; simp
  ·have h2:¬(Sum.inr e.1:Key)=Sum.inr x:=fun z=>h (Sum.inr.inj z)
   have h3:¬x=e.1:=fun z=>h z.symm
   simp [h2,h3]
theorem qaf {W:Wy} {x r:Str} {l:Wk} (h:x∉kW W):Kf (wD W) (.inr x) (.tup [.str r,lD l])=wD (W++[(x,r,l)]):=by
 unfold Kf
 have h1:((wD W).any fun p=>decide (p.1=(Sum.inr x:Key)))=false:=by
  have:=qae W x
  unfold ZB at this
  rw [this]
  exact decide_eq_false h
 rw [h1,if_neg Bool.false_ne_true]
 unfold wD
 rw [List.map_append]
 rfl
theorem qbC:∀ {W:Wy} {e:Str×Str×Wk},(kW W).Nodup->e∈W->ixD (.dct (wD W)) (.str e.1)=.ok (.tup [.str e.2.1,lD e.2.2])
 | [],e,_,h=>by cases h
 | a::W,e,hn,h=>by
  have hn2:=List.nodup_cons.mp (show (a.1::kW W).Nodup from hn)
  rcases List.mem_cons.mp h with rfl | h
  ·simp [ixD,wD]
  ·have hne:a.1≠e.1:=fun z=>hn2.1 (by rw [z]; exact List.mem_map.mpr ⟨e,h,rfl⟩)
   have ih:=qbC hn2.2 h
   unfold ixD at ih ⊢
   simp only [wD,List.map_cons] at ih ⊢
   have h2:¬(Sum.inr a.1:Key)=Sum.inr e.1:=fun z=>hne (Sum.inr.inj z)
   rw [List.find?_cons_of_neg (by simpa using h2)]
   exact ih
inductive Path (seen:List Pr) (r:Str):Wk->Str->Prop
 | nil:Path seen r [] r
 | snoc {l:Wk} {x y:Str} {k:Nat} {p:Pr}:Path seen r l x->seen[k]?=some p->(p=(x,y)\/p=(y,x))->Path seen r (l++[k]) y
theorem Path.lt {seen:List Pr} {r x:Str} {l:Wk} (h:Path seen r l x):∀ k∈l,k < seen.length:=by
 induction h with
 | nil=>simp
 | snoc _ e _ ih=>
  intro k hk
  rcases List.mem_append.mp hk with hk | hk
  ·exact ih k hk
  ·rw [List.mem_singleton.mp hk]
   exact (List.getElem?_eq_some_iff.mp e).1
structure WI (seen:List Pr) (W:Wy):Prop where
 nd:(kW W).Nodup
 sub:∀ x∈kW W,x∈LS seen
 path:∀ e∈W,Path seen e.2.1 e.2.2 e.1
 len:∀ e∈W,e.2.2.length < W.length
theorem vB (W V:Wy):kW (W++V)=kW W++kW V:=by simp [kW]
theorem WI.add {seen:List Pr} {W:Wy} (h:WI seen W) {x r:Str} {l:Wk} (hx:x∉kW W) (hm:x∈LS seen) (hp:Path seen r l x) (hl:l.length<=W.length):WI seen (W++[(x,r,l)]) where
 nd:=by
  rw [vB]
  refine List.nodup_append.mpr ⟨h.nd,by simp [kW],fun a ha b hb=>?_⟩
  rw [show kW [(x,r,l)]=[x] from rfl] at hb
  rw [List.mem_singleton.mp hb]
  exact fun z=>hx (z ▸ ha)
 sub:=fun y hy=>by
  rw [vB] at hy
  rcases List.mem_append.mp hy with hy | hy
  ·exact h.sub y hy
  ·rw [show y=x from List.mem_singleton.mp hy]; exact hm
 path:=fun e he=>by
  rcases List.mem_append.mp he with he | he
  ·exact h.path e he
  ·rw [List.mem_singleton.mp he]; exact hp
 len:=fun e he=>by
  rw [List.length_append]
  rcases List.mem_append.mp he with he | he
  ·have:=h.len e he; simp; omega
  ·rw [List.mem_singleton.mp he]; simp; omega
theorem Xn:∀ {a b:List Str},a.Nodup->(∀ x∈a,x∈b)->a.length<=b.length
 | [],b,_,_=>Nat.zero_le _
 | x::a,b,hn,h=>by
  have hn2:=List.nodup_cons.mp hn
  have hx:=h x (List.mem_cons_self ..)
  have ih:=Xn (b:=b.erase x) hn2.2 fun y hy=>(List.mem_erase_of_ne (fun z=>hn2.1 (by rw [<-z]; exact hy))).mpr (h y (List.mem_cons_of_mem _ hy))
  rw [List.length_erase_of_mem hx] at ih
  have:=List.length_pos_of_mem hx
  rw [List.length_cons]
  omega
theorem WI.le {seen:List Pr} {W:Wy} (h:WI seen W):W.length<=(LS seen).length:=by
 have:=Xn h.nd h.sub
 simpa [kW] using this
noncomputable def oth (p:Pr) (x:Str):Str:=if x=p.1 then p.2 else p.1
theorem Gq (p:Pr) (x:Str):jX [pD p,.str x]=.ok (.str (oth p x),[.non,.non]):=by
 refine runD_ap.trans ?_
 unfold oth
 by_cases h:x=p.1 <;> simp [vh,qw,qv,ixD,at0,at1,eqD,eqN,eqS,h]
theorem qbD (p:Pr) (x:Str):inA (.str x) (pD p)=.ok (.bl (decide (x=p.1\/x=p.2))):=by
 have h:=uS x [p.1,p.2]
 simp only [List.map_cons,List.map_nil] at h
 show (inD (.str x) (pD p)).bind (fun b=>Out.ok (D.bl b))=_
 unfold inD
 simp only [h]
 simp
theorem We (W:Wy) (x:Str):gG (.str x) (.dct (wD W))=.ok (.bl (!decide (x∈kW W))):=by
 unfold gG
 simp only [QA]
 rw [qae]
theorem qdr {seen:List Pr} {p:Pr} (hp:p∈seen) (x:Str):oth p x∈LS seen:=by
 rw [mem_LS]
 refine ⟨p,hp,?_⟩
 unfold oth
 split
 ·exact .inr rfl
 ·exact .inl rfl
abbrev spB:Sl->Out (Fl×Sl):=(qR (jN 7 (qt [.vl,.vl] jX (qd (qe 6) (qd (qe 4) qC))))
  (sIf (qaN (qN (d2 inA (qe 4) (qe 6))) (qN (d2 gG (qe 7) (qe 2)))) (qR (gM 2 (yE (qd (qe 1) (qd (d2 kz (d2 ixD (d2O 2 ixD (qe 4)) (dC (.int 1))) (xa (qd (qe 5) qC))) qC))) (qe 7))
  (kg (zX 3 zH (qe 7)))) ji))
theorem qbE {f g:Sl->Out (Fl×Sl)} {ρ ρ1:Sl} (h:f ρ=.ok (.nx,ρ1)):qR f g ρ=g ρ1:=by
 rw [Kn,h]
 rfl
theorem wY {g:D->Sl->Out Sl} {fb:Sl->Out (Fl×Sl)} {d:D} {ds:List D} {ρ ρ1 ρ2:Sl} (h1:g d ρ=.ok ρ1) (h2:fb ρ1=.ok (.nx,ρ2)):vc g fb (d::ds) ρ=vc g fb ds ρ2:=by
 rw [vc,h1]
 simp only [Out.plain,vf]
 rw [h2]
 rfl
theorem qds {g:D->Sl->Out Sl} {fb:Sl->Out (Fl×Sl)} {d v:D} {ds:List D} {ρ ρ1 ρ2:Sl} (h1:g d ρ=.ok ρ1) (h2:fb ρ1=.ok (.rt v,ρ2)):vc g fb (d::ds) ρ=.ok (.rt v,ρ2):=by
 rw [vc,h1]
 simp only [Out.plain,vf]
 rw [h2]
 rfl
theorem qbF {seen:List Pr} (hs:(LS seen).length<=20) {W:Wy} (hW:WI seen W) {root y:Str} {ly:Wk} (hy:(y,root,ly)∈W) {k:Nat} {p:Pr} (hk:seen[k]?=some p) (Q:List Str) (hQ:Q.length<=1000) (sd x7:Option D) :
  ∃ (M:Wy) (rch:Option D),WI seen (W++M)/\(∀ e∈M,e.2.1=root)/\M.length<=1/\((y=p.1\/y=p.2)->oth p y∈kW (W++M)) /\
   spB [sd,some (.str root),some (.dct (wD W)),some (.lst (Q.map D.str)),some (.str y),some (.int (k:Nat)),some (pD p),x7]=.ok (.nx,[sd,some (.str root),some (.dct (wD (W++M))),some (.lst ((Q++kW M).map D.str)),some (.str y),some (.int (k:Nat)),some (pD p),rch]):=by
 have h1:=Gq p y
 have h2:=qbD p y
 have h3:=We W (oth p y)
 have hle:=hW.le
 have hbg:=big
 have hll:=hW.len _ hy
 have hpm:p∈seen:=List.mem_of_getElem? hk
 by_cases q:(y=p.1\/y=p.2)/\oth p y∉kW W
 ·refine ⟨[(oth p y,root,ly++[k])],some (.str (oth p y)),hW.add q.2 (qdr hpm y) (.snoc (hW.path _ hy) hk ?_) (by rw [List.length_append]; simp; simp at hll; omega),by simp,by simp,fun _=>by rw [vB]; exact List.mem_append.mpr (.inr (by simp [kW])),?_⟩
  ·obtain ⟨p1,p2⟩:=p
   unfold oth
   rcases q.1 with e | e
   ·have e:y=p1:=e
    subst e
    simp
   ·have e:y=p2:=e
    subst e
    by_cases z:y=p1
    ·subst z; simp
    ·simp [z]
  ·unfold spB
   rw [qbE (ρ1:=[sd,some (.str root),some (.dct (wD W)),some (.lst (Q.map D.str)),some (.str y),some (.int (k:Nat)),some (pD p),some (.str (oth p y))]) (by simp [qB,je,h1])]
   have hb1:decide (y=p.1\/y=p.2)=true:=decide_eq_true q.1
   have hb2:(!decide (oth p y∈kW W))=true:=by rw [decide_eq_false q.2]; rfl
   rw [hb1] at h2
   rw [hb2] at h3
   have hix:=qbC hW.nd hy
   simp only [] at hix
   have hix2:ixD (.tup [.str root,lD ly]) (.int 1)=.ok (lD ly):=by simp [ixD,at1]
   have hput:=qaf (W:=W) (x:=oth p y) (r:=root) (l:=ly++[k]) q.2
   have hl:(inL ly).length+1<=sizeLine:=by simp [inL]; simp at hll; omega
   have z1:1<=sizeLine:=by omega
   have z2:2<=sizeLine:=by omega
   have hwl:(wD W).length < sizeLine:=by simp [wD]; omega
   have hql:Q.length < sizeLine:=by omega
   have hin:inL ly++[.int (k:Nat)]=inL (ly++[k]):=by simp [inL]
   rw [qc1,show qaN (qN (d2 inA (qe 4) (qe 6))) (qN (d2 gG (qe 7) (qe 2))) [sd,some (.str root),some (.dct (wD W)),some (.lst (Q.map D.str)),some (.str y),some (.int (k:Nat)),some (pD p),some (.str (oth p y))]=.ok (true,[sd,some (.str root),some (.dct (wD W)),some (.lst (Q.map D.str)),some (.str y),some (.int (k:Nat)),some (pD p),some (.str (oth p y))]) by simp [h2,h3]]
   simp only [vf,if_true]
   rw [qbE (ρ1:=[sd,some (.str root),some (.dct (wD (W++[(oth p y,root,ly++[k])]))),some (.lst (Q.map D.str)),some (.str y),some (.int (k:Nat)),some (pD p),some (.str (oth p y))]) (by
    simp [gM,d2O,hix,hix2,kz,z1,z2,hl,hin,QA,hwl,hput])]
   simp [yc,zH,hql,kW]
 ·refine ⟨[],some (.str (oth p y)),by simpa using hW,by simp,by simp,fun z=>?_,?_⟩
  ·rw [List.append_nil]
   exact Classical.byContradiction fun w=>q ⟨z,w⟩
  ·unfold spB
   rw [qbE (ρ1:=[sd,some (.str root),some (.dct (wD W)),some (.lst (Q.map D.str)),some (.str y),some (.int (k:Nat)),some (pD p),some (.str (oth p y))]) (by simp [qB,je,h1])]
   by_cases z:y=p.1\/y=p.2
   ·have hb1:decide (y=p.1\/y=p.2)=true:=decide_eq_true z
    have hm:oth p y∈kW W:=Classical.byContradiction fun w=>q ⟨z,w⟩
    have hb2:(!decide (oth p y∈kW W))=false:=by rw [decide_eq_true hm]; rfl
    rw [hb1] at h2
    rw [hb2] at h3
    simp [h2,h3,kW]
   ·have hb1:decide (y=p.1\/y=p.2)=false:=decide_eq_false z
    rw [hb1] at h2
    simp [h2,kW]
noncomputable def en (k0:Nat) (rest:List Pr):List D:=(rest.zipIdx k0).map fun p=>.tup [.int (p.2:Nat),pD p.1]
theorem qdt (seen:List Pr):xS (jh seen)=en 0 seen:=by
 unfold xS en jh
 rw [List.zipIdx_map,List.map_map]
 rfl
theorem qag {seen:List Pr} (hs:(LS seen).length<=20) {root y:Str} {ly:Wk} (sd:Option D):∀ (rest:List Pr) (k0:Nat) (W:Wy) (Q:List Str) (x5 x6 x7:Option D),seen.drop k0=rest->WI seen W->(y,root,ly)∈W->Q.length+rest.length<=500 ->
  ∃ (M:Wy) (y5 y6 y7:Option D),WI seen (W++M)/\(∀ e∈M,e.2.1=root)/\(∀ p∈rest,(y=p.1\/y=p.2)->oth p y∈kW (W++M))/\M.length<=rest.length /\
   vc (ju 2 (qx (gNm 5) (qx (gNm 6) jt))) spB (en k0 rest) [sd,some (.str root),some (.dct (wD W)),some (.lst (Q.map D.str)),some (.str y),x5,x6,x7]=.ok (.nx,[sd,some (.str root),some (.dct (wD (W++M))),some (.lst ((Q++kW M).map D.str)),some (.str y),y5,y6,y7])
 | [],k0,W,Q,x5,x6,x7,_,hW,_,_=>⟨[],x5,x6,x7,by simpa using hW,by simp,by simp,by simp,by simp [en,vc,kW]⟩
 | p::rest,k0,W,Q,x5,x6,x7,hd,hW,hy,hQ=>by
  rw [List.length_cons] at hQ
  have hk:seen[k0]?=some p:=by
   have:=congrArg List.head? hd
   rw [List.head?_drop] at this
   simpa using this
  have hd2:seen.drop (k0+1)=rest:=by
   have:=congrArg List.tail hd
   rw [List.tail_drop] at this
   simpa using this
  obtain ⟨M1,r1,a1,a2,a3,a4,a5⟩:=qbF hs hW hy hk Q (by omega) sd x7
  have hm1:(kW M1).length<=1:=by simpa [kW] using a3
  obtain ⟨M2,y5,y6,y7,b1,b2,b3,b4,b5⟩:=qag hs sd rest (k0+1) (W++M1) (Q++kW M1) (some (.int (k0:Nat))) (some (pD p)) r1 hd2 a1 (List.mem_append.mpr (.inl hy)) (by rw [List.length_append]; omega)
  refine ⟨M1++M2,y5,y6,y7,by rw [<-List.append_assoc]; exact b1,fun e he=>?_,fun p' hp' hz=>?_,by rw [List.length_append,List.length_cons]; omega,?_⟩
  ·rcases List.mem_append.mp he with he | he
   ·exact a2 e he
   ·exact b2 e he
  ·rw [<-List.append_assoc,vB]
   rcases List.mem_cons.mp hp' with rfl | hp'
   ·exact List.mem_append.mpr (.inl (a4 hz))
   ·have:=b3 p' hp' hz
    rw [vB] at this
    exact this
  ·rw [vB,<-List.append_assoc,<-List.append_assoc]
   refine Eq.trans ?_ b5
   have e0:en k0 (p::rest)=.tup [.int (k0:Nat),pD p]::en (k0+1) rest:=by simp [en,List.zipIdx_cons]
   rw [e0]
   exact wY rfl a5
theorem Gr {ft:Sl->Out (Bool×Sl)} {fb:Sl->Out (Fl×Sl)} {n:Nat} {ρ ρ1 ρ2:Sl} (h1:ft ρ=.ok (true,ρ1)) (h2:fb ρ1=.ok (.nx,ρ2)):jO ft fb (n+1) ρ=jO ft fb n ρ2:=by
 rw [jO,h1]
 simp only [vf,if_true]
 rw [h2]
 rfl
theorem Xo {ft:Sl->Out (Bool×Sl)} {fb:Sl->Out (Fl×Sl)} {n:Nat} {ρ ρ1:Sl} (h1:ft ρ=.ok (false,ρ1)):jO ft fb (n+1) ρ=.ok (.nx,ρ1):=by
 rw [jO,h1]
 rfl
abbrev spC:Sl->Out (Bool×Sl):=qN (d2 gtD (d1 ka (qe 3)) (dC (.int 0)))
abbrev spW:Sl->Out (Fl×Sl):=(qR (jN 4 (YG 3)) (QV (yf (qe 0)) (ju 2 (qx (gNm 5) (qx (gNm 6) jt))) spB))
abbrev sD (seen:List Pr):D:=.lst (jh seen)
theorem Wf {seen:List Pr} (hn:seen.length<=10) (hs:(LS seen).length<=20) (root:Str):∀ (n:Nat) (W:Wy) (Q:List Str) (x4 x5 x6 x7:Option D),n<=100->WI seen W->(∀ x∈Q,∃ l,(x,root,l)∈W)->Q.length+((LS seen).length - W.length) < n ->
  ∃ (M:Wy) (y4 y5 y6 y7:Option D),WI seen (W++M)/\(∀ e∈M,e.2.1=root)/\(∀ x,x∈Q\/x∈kW M->∀ p∈seen,(x=p.1\/x=p.2)->oth p x∈kW (W++M)) /\
   jO spC spW n [some (sD seen),some (.str root),some (.dct (wD W)),some (.lst (Q.map D.str)),x4,x5,x6,x7]=.ok (.nx,[some (sD seen),some (.str root),some (.dct (wD (W++M))),some (.lst []),y4,y5,y6,y7])
 | 0,W,Q,x4,x5,x6,x7,_,_,_,h=>absurd h (Nat.not_lt_zero _)
 | n+1,W,[],x4,x5,x6,x7,_,hW,_,_=>⟨[],x4,x5,x6,x7,by simpa using hW,by simp,by simp [kW],by
  rw [List.append_nil]
  exact Xo (by simp [ka,gtD,wT])⟩
 | n+1,W,y::Q,x4,x5,x6,x7,h100,hW,hQ,hm=>by
  obtain ⟨ly,hy⟩:=hQ y (List.mem_cons_self ..)
  rw [List.length_cons] at hm
  obtain ⟨M1,y5,y6,y7,a1,a2,a3,a4,a5⟩:=qag hs (some (sD seen)) seen 0 W Q x5 x6 x7 (by simp) hW hy (by omega)
  have hle:=a1.le
  rw [List.length_append] at hle
  obtain ⟨M2,z4,z5,z6,z7,b1,b2,b3,b4⟩:=Wf hn hs root n (W++M1) (Q++kW M1) (some (.str y)) y5 y6 y7 (by omega) a1 (fun x hx=>by
   rcases List.mem_append.mp hx with hx | hx
   ·obtain ⟨l,hl⟩:=hQ x (List.mem_cons_of_mem _ hx)
    exact ⟨l,List.mem_append.mpr (.inl hl)⟩
   ·obtain ⟨e,he,rfl⟩:=List.mem_map.mp hx
    refine ⟨e.2.2,List.mem_append.mpr (.inr ?_)⟩
    rw [<-a2 e he]
    exact he) (by
   rw [List.length_append,List.length_append,show (kW M1).length=M1.length by simp [kW]]
   omega)
  refine ⟨M1++M2,z4,z5,z6,z7,by rw [<-List.append_assoc]; exact b1,fun e he=>?_,fun x hx p hp hz=>?_,?_⟩
  ·rcases List.mem_append.mp he with he | he
   ·exact a2 e he
   ·exact b2 e he
  ·rw [<-List.append_assoc]
   by_cases q:x=y
   ·subst q
    rw [vB]
    exact List.mem_append.mpr (.inl (a3 p hp hz))
   ·refine b3 x ?_ p hp hz
    rcases hx with hx | hx
    ·rcases List.mem_cons.mp hx with e | hx
     ·exact absurd e q
     ·exact .inl (List.mem_append.mpr (.inl hx))
    ·rw [vB] at hx
     rcases List.mem_append.mp hx with hx | hx
     ·exact .inl (List.mem_append.mpr (.inr hx))
     ·exact .inr hx
  ·rw [<-List.append_assoc]
   refine Eq.trans ?_ b4
   refine Gr (ρ1:=[some (sD seen),some (.str root),some (.dct (wD W)),some (.lst ((y::Q).map D.str)),x4,x5,x6,x7]) (by
    have:(0:Int) < (Q.length:Int)+1:=by omega
    simp [ka,gtD,wT,this]) ?_
   unfold spW
   rw [qbE (ρ1:=[some (sD seen),some (.str root),some (.dct (wD W)),some (.lst (Q.map D.str)),some (.str y),x5,x6,x7]) (by simp [YG])]
   rw [vF,show yf (qe 0) [some (sD seen),some (.str root),some (.dct (wD W)),some (.lst (Q.map D.str)),some (.str y),x5,x6,x7]=.ok (xS (jh seen),[some (sD seen),some (.str root),some (.dct (wD W)),some (.lst (Q.map D.str)),some (.str y),x5,x6,x7]) from rfl,vf,qdt]
   exact a5
theorem Xp {seen:List Pr} (hn:seen.length<=6) (hs:(LS seen).length<=12) {W:Wy} (hW:WI seen W) {root:Str} (hr:root∉kW W) (hm:root∈LS seen) :
  ∃ M:Wy,WI seen (W++M)/\(∀ e∈M,e.2.1=root)/\(root,root,[])∈M/\(∀ x∈kW M,∀ p∈seen,(x=p.1\/x=p.2)->oth p x∈kW (W++M))/\xn [sD seen,.str root,.dct (wD W)]=.ok (.non,[.non,.non,.dct (wD (W++M))]):=by
 have hW1:=hW.add hr hm (r:=root) (l:=[]) .nil (Nat.zero_le _)
 have hle:=hW1.le
 have hle0:=hW.le
 have hbg:=big
 obtain ⟨M,y4,y5,y6,y7,a1,a2,a3,a4⟩:=Wf (by omega) (by omega) root 20 (W++[(root,root,[])]) [root] none none none none (by omega) hW1 (fun x hx=>⟨[],by rw [List.mem_singleton.mp hx]; exact List.mem_append.mpr (.inr (List.mem_singleton.mpr rfl))⟩) (by simp; omega)
 rw [List.append_assoc] at a1 a3 a4
 refine ⟨[(root,root,[])]++M,a1,fun e he=>?_,List.mem_append.mpr (.inl (List.mem_singleton.mpr rfl)),fun x hx p hp hz=>a3 x ?_ p hp hz,?_⟩
 ·rcases List.mem_append.mp he with he | he
  ·rw [List.mem_singleton.mp he]
  ·exact a2 e he
 ·rw [vB] at hx
  rcases List.mem_append.mp hx with hx | hx
  ·exact .inl hx
  ·exact .inr hx
 ·refine runD_ap.trans ?_
  unfold Qd
  rw [show qw Qc [sD seen,.str root,.dct (wD W)]=[some (sD seen),some (.str root),some (.dct (wD W)),none,none,none,none,none] from rfl]
  have hput:=qaf (W:=W) (x:=root) (r:=root) (l:=[]) hr
  rw [show lD []=.lst [] from rfl] at hput
  have z2:2<=sizeLine:=by omega
  have z1:1<=sizeLine:=by omega
  have hwl:(wD W).length < sizeLine:=by simp [wD]; omega
  refine (qD (ρ1:=[some (sD seen),some (.str root),some (.dct (wD (W++[(root,root,[])]))),none,none,none,none,none]) (by simp [gM,z2,QA,hwl,hput])).trans ?_
  refine (qD (ρ1:=[some (sD seen),some (.str root),some (.dct (wD (W++[(root,root,[])]))),some (.lst [.str root]),none,none,none,none]) (by simp [z1])).trans ?_
  exact (congrArg (QB [.val,.val,.io]) a4).trans rfl
def CI (seen:List Pr) (W:Wy):Prop:=∀ e∈W,∀ p∈seen,(e.1=p.1\/e.1=p.2)->∃ e'∈W,e'.1=oth p e.1/\e'.2.1=e.2.1
def RI (W:Wy):Prop:=∀ e∈W,(e.2.1,e.2.1,[])∈W
theorem qbG {p:Pr} {x:Str} (h:x=p.1\/x=p.2):oth p (oth p x)=x/\(oth p x=p.1\/oth p x=p.2):=by
 obtain ⟨a,b⟩:=p
 unfold oth
 simp only []
 by_cases q:x=a
 ·subst q
  simp only [if_true]
  by_cases q2:b=x
  ·subst q2; simp
  ·simp [q2]
 ·have:x=b:=by rcases h with h | h; exact absurd h q; exact h
  subst this
  simp [q]
theorem Wg:∀ {W:Wy},(kW W).Nodup->∀ {e e':Str×Str×Wk},e∈W->e'∈W->e.1=e'.1->e=e'
 | [],_,e,e',h,_,_=>by cases h
 | a::W,hn,e,e',h,h',q=>by
  have hn2:=List.nodup_cons.mp (show (a.1::kW W).Nodup from hn)
  rcases List.mem_cons.mp h with h1 | h1
  ·rcases List.mem_cons.mp h' with h2 | h2
   ·rw [h1,h2]
   ·exact absurd (show a.1∈kW W from List.mem_map.mpr ⟨e',h2,by rw [<-q,h1]⟩) hn2.1
  ·rcases List.mem_cons.mp h' with h2 | h2
   ·exact absurd (show a.1∈kW W from List.mem_map.mpr ⟨e,h1,by rw [q,h2]⟩) hn2.1
   ·exact Wg hn2.2 h1 h2 q
abbrev woB:Sl->Out (Fl×Sl):=(sIf (qN (d2 gG (qe 2) (qe 1))) (kg (qt [.vl,.vl,.sl 1] xn (qd (qe 0) (qd (qe 2) (jY qC))))) ji)
theorem zz {seen:List Pr} (hn:seen.length<=6) (hs:(LS seen).length<=12):∀ (xs:List Str) (W:Wy) (x:Option D),(∀ x∈xs,x∈LS seen)->WI seen W->CI seen W->RI W ->
  ∃ (M:Wy) (x':Option D),WI seen (W++M)/\CI seen (W++M)/\RI (W++M)/\(∀ x∈xs,x∈kW (W++M))/\vc (gNm 2) woB (xs.map D.str) [some (sD seen),some (.dct (wD W)),x]=.ok (.nx,[some (sD seen),some (.dct (wD (W++M))),x'])
 | [],W,x,_,hW,hC,hR=>⟨[],x,by simpa using hW,by simpa using hC,by simpa using hR,by simp,by simp [vc]⟩
 | y::xs,W,x,hx,hW,hC,hR=>by
  have h3:=We W y
  by_cases q:y∈kW W
  ·obtain ⟨M,x',a1,a2,a3,a4,a5⟩:=zz hn hs xs W (some (.str y)) (fun z hz=>hx z (List.mem_cons_of_mem _ hz)) hW hC hR
   refine ⟨M,x',a1,a2,a3,fun z hz=>?_,?_⟩
   ·rcases List.mem_cons.mp hz with rfl | hz
    ·rw [vB]; exact List.mem_append.mpr (.inl q)
    ·exact a4 z hz
   ·refine Eq.trans (wY (ρ1:=[some (sD seen),some (.dct (wD W)),some (.str y)]) rfl ?_) a5
    rw [decide_eq_true q] at h3
    simp [h3]
  ·obtain ⟨M1,b1,b2,b3,b4,b5⟩:=Xp hn hs hW q (hx y (List.mem_cons_self ..))
   have hR1:RI (W++M1):=fun e he=>by
    rcases List.mem_append.mp he with he | he
    ·exact List.mem_append.mpr (.inl (hR e he))
    ·rw [b2 e he]
     exact List.mem_append.mpr (.inr b3)
   have hC1:CI seen (W++M1):=fun e he p hp hz=>by
    rcases List.mem_append.mp he with he | he
    ·obtain ⟨e',h1,h2⟩:=hC e he p hp hz
     exact ⟨e',List.mem_append.mpr (.inl h1),h2⟩
    ·have hk:=b4 e.1 (List.mem_map.mpr ⟨e,he,rfl⟩) p hp hz
     obtain ⟨e',h1,h2⟩:=List.mem_map.mp hk
     refine ⟨e',h1,h2,?_⟩
     rcases List.mem_append.mp h1 with h1' | h1'
     ·exfalso
      obtain ⟨o1,o2⟩:=qbG hz
      rw [<-h2] at o1 o2
      obtain ⟨e2,h4,h5,_⟩:=hC e' h1' p hp o2
      rw [o1] at h5
      have:=Wg b1.nd (List.mem_append.mpr (.inl h4)) (List.mem_append.mpr (.inr he)) h5
      subst this
      have hnd:=b1.nd
      rw [vB] at hnd
      exact (List.nodup_append.mp hnd).2.2 e2.1 (List.mem_map.mpr ⟨e2,h4,rfl⟩) e2.1 (List.mem_map.mpr ⟨e2,he,rfl⟩) rfl
     ·rw [b2 e' h1',b2 e he]
   obtain ⟨M2,x',a1,a2,a3,a4,a5⟩:=zz hn hs xs (W++M1) (some (.str y)) (fun z hz=>hx z (List.mem_cons_of_mem _ hz)) b1 hC1 hR1
   rw [List.append_assoc] at a1 a2 a3 a4 a5
   refine ⟨M1++M2,x',a1,a2,a3,fun z hz=>?_,?_⟩
   ·rcases List.mem_cons.mp hz with rfl | hz
    ·rw [vB,vB]
     exact List.mem_append.mpr (.inr (List.mem_append.mpr (.inl (List.mem_map.mpr ⟨_,b3,rfl⟩))))
    ·exact a4 z hz
   ·refine Eq.trans (wY (ρ1:=[some (sD seen),some (.dct (wD W)),some (.str y)]) rfl ?_) a5
    rw [decide_eq_false q] at h3
    simp [h3,qB,je,b5]
theorem Ue {seen:List Pr} (hn:seen.length<=6) (hs:(LS seen).length<=12) :
  ∃ W:Wy,WI seen W/\CI seen W/\RI W/\(∀ x∈LS seen,x∈kW W)/\ww [sD seen]=.ok (.dct (wD W),[.non]):=by
 obtain ⟨W,x',a1,a2,a3,a4,a5⟩:=zz hn hs (LS seen) [] none (fun _ h=>h) ⟨by simp [kW],by simp [kW],by simp,by simp⟩ (fun e he=>by cases he) (fun e he=>by cases he)
 rw [List.nil_append] at a1 a2 a3 a4 a5
 refine ⟨W,a1,a2,a3,a4,?_⟩
 have hlo:=Qv (l:=seen) (by omega)
 refine runD_ap.trans ?_
 unfold zk
 rw [show qw zj [sD seen]=[some (sD seen),none,none] from rfl]
 refine (qD (ρ1:=[some (sD seen),some (.dct []),none]) (by simp)).trans ?_
 refine (qD (ρ1:=[some (sD seen),some (.dct (wD W)),x']) (by
  rw [vF,show vj (qt [.vl] kY (qd (qe 0) qC)) [some (sD seen),some (.dct []),none]=.ok ((LS seen).map D.str,[some (sD seen),some (.dct []),none]) by simp [qB,je,hlo,jQ],vf]
  exact a5)).trans ?_
 simp [qv]
noncomputable def vU (W:Wy) (x:Str):Str×Wk:=((W.find? fun e=>decide (e.1=x)).map (·.2)).getD (⟨#[]⟩,[])
theorem vV {W:Wy} {x:Str} (h:x∈kW W):(x,vU W x)∈W:=by
 unfold vU
 cases q:W.find? fun e=>decide (e.1=x) with
 | none=>
  obtain ⟨e,he,rfl⟩:=List.mem_map.mp h
  have:=List.find?_eq_none.mp q e he
  simp at this
 | some e=>
  have h1:=List.mem_of_find?_eq_some q
  have h2:e.1=x:=by simpa using List.find?_some q
  rw [<-h2]
  exact h1
theorem KW {W:Wy} (hn:(kW W).Nodup) {x:Str} (h:x∈kW W):ixD (.dct (wD W)) (.str x)=.ok (.tup [.str (vU W x).1,lD (vU W x).2]):=qbC hn (vV h)
theorem qfs {a b:D}:ixD (.tup [a,b]) (.int 0)=.ok a:=by simp [ixD,at0]
theorem qft {a b:D}:ixD (.tup [a,b]) (.int 1)=.ok b:=by simp [ixD,at1]
theorem qbH (a b:Wk):inL a++inL b=inL (a++b):=by simp [inL]
theorem Xq (a:Wk):(inL a).length=a.length:=by simp [inL]
theorem qdu (l:Wk):uG (lD l)=.ok (lD l.reverse):=by simp [uG,inL]
theorem Xr {a b:Wk} (h:a.length+b.length<=2000):kz (lD a) (lD b)=.ok (lD (a++b)):=by
 have hz:(inL a).length+(inL b).length<=sizeLine:=by rw [Xq,Xq]; exact jy h
 show (if (inL a).length+(inL b).length<=sizeLine then Out.ok (D.lst (inL a++inL b)) else .bad)=_
 rw [if_pos hz,qbH]
abbrev Ci:=Str×Wk
noncomputable def cd (c:Ci):D:=.tup [.str c.1,lD c.2]
noncomputable def cD (C:List Ci):List D:=C.map cd
noncomputable def Gs (W:Wy) (p:Pr) (k:Nat):Ci:=((vU W p.1).1,(vU W p.1).2++[k]++(vU W p.2).2.reverse)
noncomputable def CL (W:Wy) (k0:Nat) (rest:List Pr):List Ci:=(rest.zipIdx k0).map fun p=>Gs W p.1 p.2
abbrev ciB:Sl->Out (Fl×Sl):=(qR (jN 5 (d1 uG (d2 ixD (d2 ixD (qe 1) (d2 ixD (qe 4) (dC (.int 1)))) (dC (.int 1)))))
  (kg (zX 2 zH (yE (qd (d2 ixD (d2 ixD (qe 1) (d2 ixD (qe 4) (dC (.int 0)))) (dC (.int 0))) (qd (d2 kz (d2 kz (d2 ixD (d2 ixD (qe 1) (d2 ixD (qe 4) (dC (.int 0)))) (dC (.int 1))) (xa (qd (qe 3) qC))) (qe 5)) qC))))))
theorem qbI {seen:List Pr} (hs:(LS seen).length<=20) {W:Wy} (hW:WI seen W) {p:Pr} (h1:p.1∈kW W) (h2:p.2∈kW W) {k:Nat} {acc:List D} (ha:acc.length < 1000) (sd x5:Option D) :
  ∃ y5,ciB [sd,some (.dct (wD W)),some (.lst acc),some (.int (k:Nat)),some (pD p),x5]=.ok (.nx,[sd,some (.dct (wD W)),some (.lst (acc++[cd (Gs W p k)])),some (.int (k:Nat)),some (pD p),y5]):=by
 have i1:=KW hW.nd h1
 have i2:=KW hW.nd h2
 have l1:=hW.len _ (vV h1)
 have l2:=hW.len _ (vV h2)
 have hle:=hW.le
 have hbg:=big
 simp only [] at l1 l2
 have z1:1<=sizeLine:=by omega
 have z2:2<=sizeLine:=by omega
 have hal:acc.length < sizeLine:=by omega
 have a1:=Xr (a:=(vU W p.1).2) (b:=[k]) (by simp; omega)
 have a2:=Xr (a:=(vU W p.1).2++[k]) (b:=(vU W p.2).2.reverse) (by simp; omega)
 have a1:kz (lD (vU W p.1).2) (.lst [.int (k:Nat)])=.ok (lD ((vU W p.1).2++[k])):=a1
 have r2:=qdu (vU W p.2).2
 refine ⟨some (lD (vU W p.2).2.reverse),?_⟩
 unfold ciB Gs cd
 rw [qbE (ρ1:=[sd,some (.dct (wD W)),some (.lst acc),some (.int (k:Nat)),some (pD p),some (lD (vU W p.2).2.reverse)]) (by simp [qft,i2,r2])]
 simp [yc,qfs,qft,i1,a1,a2,z1,z2,zH,hal]
theorem Xu {seen:List Pr} (hs:(LS seen).length<=20) {W:Wy} (hW:WI seen W) (sd:Option D):∀ (rest:List Pr) (k0:Nat) (acc:List Ci) (x3 x4 x5:Option D),(∀ p∈rest,p.1∈kW W/\p.2∈kW W)->acc.length+rest.length<=500 ->
  ∃ y3 y4 y5,vc (ju 2 (qx (gNm 3) (qx (gNm 4) jt))) ciB (en k0 rest) [sd,some (.dct (wD W)),some (.lst (cD acc)),x3,x4,x5]=.ok (.nx,[sd,some (.dct (wD W)),some (.lst (cD (acc++CL W k0 rest))),y3,y4,y5])
 | [],k0,acc,x3,x4,x5,_,_=>⟨x3,x4,x5,by simp [en,CL,vc]⟩
 | p::rest,k0,acc,x3,x4,x5,h,hl=>by
  rw [List.length_cons] at hl
  obtain ⟨h1,h2⟩:=h p (List.mem_cons_self ..)
  obtain ⟨r5,e⟩:=qbI hs hW h1 h2 (k:=k0) (acc:=cD acc) (by simp [cD]; omega) sd x5
  obtain ⟨y3,y4,y5,ih⟩:=Xu hs hW sd rest (k0+1) (acc++[Gs W p k0]) (some (.int (k0:Nat))) (some (pD p)) r5 (fun q hq=>h q (List.mem_cons_of_mem _ hq)) (by rw [List.length_append]; simp; omega)
  refine ⟨y3,y4,y5,?_⟩
  have e0:en k0 (p::rest)=.tup [.int (k0:Nat),pD p]::en (k0+1) rest:=by simp [en,List.zipIdx_cons]
  have e1:acc++CL W k0 (p::rest)=(acc++[Gs W p k0])++CL W (k0+1) rest:=by simp [CL,List.zipIdx_cons]
  rw [e0,e1]
  refine Eq.trans (wY rfl e) ?_
  rw [show cD acc++[cd (Gs W p k0)]=cD (acc++[Gs W p k0]) by simp [cD]]
  exact ih
theorem zA {seen:List Pr} {W:Wy} (ha:∀ x∈LS seen,x∈kW W):∀ p∈seen,p.1∈kW W/\p.2∈kW W:=fun p hp=>⟨ha _ (mem_LS.mpr ⟨p,hp,.inl rfl⟩),ha _ (mem_LS.mpr ⟨p,hp,.inr rfl⟩)⟩
theorem gm {seen:List Pr} (hn:seen.length<=6) (hs:(LS seen).length<=20) {W:Wy} (hW:WI seen W) (ha:∀ x∈LS seen,x∈kW W):va [sD seen,.dct (wD W)]=.ok (.lst (cD (CL W 0 seen)),[.non,.non]):=by
 obtain ⟨y3,y4,y5,e⟩:=Xu hs hW (some (sD seen)) seen 0 [] none none none (zA ha) (by simp; omega)
 rw [List.nil_append] at e
 refine runD_ap.trans ?_
 unfold wy
 rw [show qw wx [sD seen,.dct (wD W)]=[some (sD seen),some (.dct (wD W)),none,none,none,none] from rfl]
 refine (qD (ρ1:=[some (sD seen),some (.dct (wD W)),some (.lst []),none,none,none]) (by simp)).trans ?_
 refine (qD (ρ1:=[some (sD seen),some (.dct (wD W)),some (.lst (cD (CL W 0 seen))),y3,y4,y5]) (by
  rw [vF,show yf (qe 0) [some (sD seen),some (.dct (wD W)),some (.lst []),none,none,none]=.ok (xS (jh seen),[some (sD seen),some (.dct (wD W)),some (.lst []),none,none,none]) from rfl,vf,qdt]
  exact e)).trans ?_
 simp [qv]
theorem qdv {seen:List Pr} {W:Wy} (hW:WI seen W) (ha:∀ x∈LS seen,x∈kW W):∀ c∈CL W 0 seen,∀ k∈c.2,k < seen.length:=by
 intro c hc k hk
 obtain ⟨q,hq,rfl⟩:=List.mem_map.mp hc
 obtain ⟨p,j⟩:=q
 have hj:=List.mem_zipIdx hq
 have hp:p∈seen:=by rw [hj.2.2]; exact List.getElem_mem _
 obtain ⟨h1,h2⟩:=zA ha p hp
 unfold Gs at hk
 simp only [List.mem_append,List.mem_reverse,List.mem_singleton] at hk
 rcases hk with (hk | hk) | hk
 ·exact (hW.path _ (vV h1)).lt k hk
 ·have:=hj.2.1
  omega
 ·exact (hW.path _ (vV h2)).lt k hk
noncomputable def fD (F:List Ci):List (Key×D):=F.map fun c=>(.inr c.1,lD c.2)
noncomputable def kF (F:List Ci):List Str:=F.map (·.1)
theorem qah (F:List Ci) (x:Str):ZB (fD F) (.inr x)=decide (x∈kF F):=by
 unfold ZB fD kF
 induction F with
 | nil=>rfl
 | cons e F ih=>
  rw [List.map_cons,List.any_cons,ih]
  by_cases h:e.1=x
  ·subst h; simp
  ·have h2:¬(Sum.inr e.1:Key)=Sum.inr x:=fun z=>h (Sum.inr.inj z)
   have h3:¬x=e.1:=fun z=>h z.symm
   simp [h2,h3]
theorem qdw {F:List Ci} {x:Str} {l:Wk} (h:x∉kF F):Kf (fD F) (.inr x) (lD l)=fD (F++[(x,l)]):=by
 unfold Kf
 have h1:((fD F).any fun p=>decide (p.1=(Sum.inr x:Key)))=false:=by
  have:=qah F x
  unfold ZB at this
  rw [this]
  exact decide_eq_false h
 rw [h1,if_neg Bool.false_ne_true]
 unfold fD
 rw [List.map_append]
 rfl
noncomputable def JQ (F:List Ci) (x:Str):Wk:=((F.find? fun c=>decide (c.1=x)).map (·.2)).getD []
theorem KY:∀ (F:List Ci) (x:Str),(fD F).find? (fun kv=>decide (kv.1=(Sum.inr x:Key)))=(F.find? fun c=>decide (c.1=x)).map fun c=>(Sum.inr c.1,lD c.2)
 | [],x=>rfl
 | c::F,x=>by
  have ih:=KY F x
  unfold fD at ih ⊢
  rw [List.map_cons]
  by_cases h:c.1=x
  ·rw [List.find?_cons_of_pos (by simp [h]),List.find?_cons_of_pos (by simp [h])]
   rfl
  ·have h2:¬(Sum.inr c.1:Key)=Sum.inr x:=fun z=>h (Sum.inr.inj z)
   rw [List.find?_cons_of_neg (by simpa using h2),List.find?_cons_of_neg (by simpa using h),ih]
theorem qeU {F:List Ci} {x:Str} (h:x∈kF F):ixD (.dct (fD F)) (.str x)=.ok (lD (JQ F x)):=by
 unfold ixD JQ
 simp only [KY]
 cases q:F.find? fun c=>decide (c.1=x) with
 | none=>
  obtain ⟨e,he,rfl⟩:=List.mem_map.mp h
  have:=List.find?_eq_none.mp q e he
  simp at this
 | some c=>rfl
theorem qdx (F:List Ci) (x:Str):qdZ (fD F) (.inr x) (.lst [])=lD (JQ F x):=by
 unfold qdZ JQ
 rw [KY]
 cases F.find? fun c=>decide (c.1=x) <;> rfl
noncomputable def FO:List Ci->List Ci->List Ci
 | F,[]=>F
 | F,c::C=>FO (if odd c.2=true/\c.1∉kF F then F++[c] else F) C
theorem Wh:∀ (C F:List Ci),(∀ c∈FO F C,c∈F\/c∈C)/\(∀ x∈kF F,x∈kF (FO F C))/\(∀ c∈C,odd c.2=true->c.1∈kF (FO F C))/\(FO F C).length<=F.length+C.length
 | [],F=>⟨fun c h=>.inl h,fun x h=>h,by simp,by simp [FO]⟩
 | c::C,F=>by
  unfold FO
  by_cases q:odd c.2=true/\c.1∉kF F
  ·rw [if_pos q]
   obtain ⟨a,b,d,e⟩:=Wh C (F++[c])
   refine ⟨fun y hy=>?_,fun x hx=>b x (by simp [kF] at hx ⊢; exact .inl hx),fun y hy ho=>?_,by rw [List.length_append] at e; simp at e ⊢; omega⟩
   ·rcases a y hy with h | h
    ·rcases List.mem_append.mp h with h | h
     ·exact .inl h
     ·exact .inr (by rw [List.mem_singleton.mp h]; exact List.mem_cons_self ..)
    ·exact .inr (List.mem_cons_of_mem _ h)
   ·rcases List.mem_cons.mp hy with rfl | hy
    ·exact b _ (by simp [kF])
    ·exact d y hy ho
  ·rw [if_neg q]
   obtain ⟨a,b,d,e⟩:=Wh C F
   refine ⟨fun y hy=>?_,b,fun y hy ho=>?_,by simp at e ⊢; omega⟩
   ·rcases a y hy with h | h
    ·exact .inl h
    ·exact .inr (List.mem_cons_of_mem _ h)
   ·rcases List.mem_cons.mp hy with rfl | hy
    ·exact b _ (Classical.byContradiction fun w=>q ⟨ho,w⟩)
    ·exact d y hy ho
abbrev foB:Sl->Out (Fl×Sl):=(sIf (qaN (xD (qt [.vl] vQ (qd (qe 3) qC))) (qN (d2 gG (qe 2) (qe 1)))) (gM 1 (qe 3) (qe 2)) ji)
theorem qdy (F:List Ci) (x:Str):gG (.str x) (.dct (fD F))=.ok (.bl (!decide (x∈kF F))):=by
 unfold gG
 simp only [QA]
 rw [qah]
theorem KZ (cd0:Option D):∀ (C F:List Ci) (x2 x3:Option D),F.length+C.length<=500->∃ y2 y3,vc (ju 2 (qx (gNm 2) (qx (gNm 3) jt))) foB (cD C) [cd0,some (.dct (fD F)),x2,x3]=.ok (.nx,[cd0,some (.dct (fD (FO F C))),y2,y3])
 | [],F,x2,x3,_=>⟨x2,x3,rfl⟩
 | c::C,F,x2,x3,hl=>by
  rw [List.length_cons] at hl
  have h1:=zy c.2
  have h2:=qdy F c.1
  have hwl:(fD F).length < sizeLine:=Nat.lt_of_lt_of_le (by simp [fD]; omega) big
  unfold FO
  by_cases q:odd c.2=true/\c.1∉kF F
  ·rw [if_pos q]
   obtain ⟨y2,y3,ih⟩:=KZ cd0 C (F++[c]) (some (.str c.1)) (some (lD c.2)) (by rw [List.length_append]; simp; omega)
   refine ⟨y2,y3,Eq.trans (wY (d:=cd c) (ρ1:=[cd0,some (.dct (fD F)),some (.str c.1),some (lD c.2)]) rfl ?_) ih⟩
   rw [q.1] at h1
   rw [decide_eq_false q.2] at h2
   have hp:=qdw (F:=F) (x:=c.1) (l:=c.2) q.2
   simp [qB,je,h1,uY,h2,gM,QA,hwl,hp]
  ·rw [if_neg q]
   obtain ⟨y2,y3,ih⟩:=KZ cd0 C F (some (.str c.1)) (some (lD c.2)) (by omega)
   refine ⟨y2,y3,Eq.trans (wY (d:=cd c) (ρ1:=[cd0,some (.dct (fD F)),some (.str c.1),some (lD c.2)]) rfl ?_) ih⟩
   cases q1:odd c.2 with
   | false=>
    rw [q1] at h1
    simp [qB,je,h1,uY]
   | true=>
    rw [q1] at h1
    have:c.1∈kF F:=Classical.byContradiction fun w=>q ⟨q1,w⟩
    rw [decide_eq_true this] at h2
    simp [qB,je,h1,uY,h2]
theorem Wi (C:List Ci) (hl:C.length<=400):vT [.lst (cD C)]=.ok (.dct (fD (FO [] C)),[.non]):=by
 obtain ⟨y2,y3,e⟩:=KZ (some (.lst (cD C))) C [] none none (by simp; omega)
 refine runD_ap.trans ?_
 unfold uj
 rw [show qw ui [.lst (cD C)]=[some (.lst (cD C)),none,none,none] from rfl]
 refine (qD (ρ1:=[some (.lst (cD C)),some (.dct []),none,none]) (by simp)).trans ?_
 refine (qD (ρ1:=[some (.lst (cD C)),some (.dct (fD (FO [] C))),y2,y3]) (by
  rw [vF,show vj (qe 0) [some (.lst (cD C)),some (.dct []),none,none]=.ok (cD C,[some (.lst (cD C)),some (.dct []),none,none]) from rfl,vf]
  exact e)).trans ?_
 simp [qv]
noncomputable def JN (F C:List Ci):List Ci:=(C.filter fun c=>odd c.2).map fun c=>(c.1,JQ F c.1++c.2)
abbrev joT:Sl->Out (Bool×Sl):=xD (qt [.vl] vQ (qd (qe 1) qC))
abbrev joE:Sl->Out (D×Sl):=yE (qd (qe 0) (qd (d2 kz (d2 ixD (qe 2) (qe 0)) (qe 1)) qC))
theorem Xv {F:List Ci} (hF:∀ c∈F,c.2.length<=100):∀ (C:List Ci) (x y:Option D),(∀ c∈C,c.2.length<=100)->(∀ c∈C,odd c.2=true->c.1∈kF F) ->
  ∃ x' y',jp (ju 2 (qx (gNm 0) (qx (gNm 1) jt))) joT joE (cD C) [x,y,some (.dct (fD F))]=.ok (cD (JN F C),[x',y',some (.dct (fD F))])
 | [],x,y,_,_=>⟨x,y,rfl⟩
 | c::C,x,y,hl,hk=>by
  obtain ⟨x',y',ih⟩:=Xv hF C (some (.str c.1)) (some (lD c.2)) (fun d hd=>hl d (List.mem_cons_of_mem _ hd)) fun d hd=>hk d (List.mem_cons_of_mem _ hd)
  refine ⟨x',y',?_⟩
  have h1:=zy c.2
  have z2:2<=sizeLine:=jy (by omega)
  have e0:cD (c::C)=.tup [.str c.1,lD c.2]::cD C:=rfl
  cases q:odd c.2 with
  | false=>
   rw [q] at h1
   have e1:JN F (c::C)=JN F C:=by simp [JN,q]
   rw [e0,e1]
   simp [jp,yU,ju,qx,jt,qB,je,h1,uY,ih]
  | true=>
   rw [q] at h1
   have e1:JN F (c::C)=(c.1,JQ F c.1++c.2)::JN F C:=by simp [JN,q]
   have hm:=hk c (List.mem_cons_self ..) q
   have i1:=qeU hm
   have hg:(JQ F c.1).length<=100:=by
    unfold JQ
    cases w:F.find? fun d=>decide (d.1=c.1) with
    | none=>simp
    | some d=>exact hF d (List.mem_of_find?_eq_some w)
   have hcl:=hl c (List.mem_cons_self ..)
   have a1:=Xr (a:=JQ F c.1) (b:=c.2) (by omega)
   rw [e0,e1]
   simp [jp,yU,ju,qx,jt,qB,je,h1,uY,i1,a1,z2,ih]
   simp [cD,cd]
theorem Qx {own cap:List Nat} {nt:Nat} {fi:Sl->Out (List D×Sl)} {g:D->Sl->Out Sl} {ft:Sl->Out (Bool×Sl)} {fe:Sl->Out (D×Sl)} {ρ ρ1 ρ2:Sl} {ds es:List D} (h:fi ρ=.ok (ds,ρ1)) (hl:ds.length<=sizeLine) (hc:jp g ft fe ds (kh nt cap ρ1)=.ok (es,ρ2)):jn own nt cap fi g ft fe ρ=.ok (.lst es,jq own ρ2 nt cap ρ1):=by
 unfold jn
 rw [h]
 simp only [vf]
 rw [if_pos hl,hc]
 rfl
abbrev baB:Sl->Out (Fl×Sl):=(sIf (xD (qt [.vl,.vl,.vl] VV (qd (qe 7) (qd (qe 1) (qd (qe 2) qC))))) (jE (yE (qd (qe 6) (qd (qe 7) qC)))) ji)
theorem Xw {nd:D} {ns:List Int} (hnd:qbX nd ns) {r:Int} (hr:1<=r) (a b c d:Option D):∀ (L:List Ci) (x y:Option D),(∀ w∈L,∀ k∈w.2,k < ns.length)->∃ ρ,vc (ju 2 (qx (gNm 6) (qx (gNm 7) jt))) baB (cD L) [a,some (.int r),some nd,b,c,d,x,y]=.ok (match L.find? fun w=>qbY w.2 r ns with | some w=>.rt (cd w) | none=>.nx,ρ)
 | [],x,y,_=>⟨_,rfl⟩
 | w::L,x,y,h=>by
  have h1:=qbB hnd (h w (List.mem_cons_self ..)) hr
  have z2:2<=sizeLine:=jy (by omega)
  cases q:qbY w.2 r ns with
  | true=>
   rw [q] at h1
   refine ⟨[a,some (.int r),some nd,b,c,d,some (.str w.1),some (lD w.2)],?_⟩
   rw [List.find?_cons_of_pos (by simpa using q)]
   exact qds (d:=cd w) (ρ1:=[a,some (.int r),some nd,b,c,d,some (.str w.1),some (lD w.2)]) rfl (by simp [qB,je,h1,uY,z2,cd])
  | false=>
   rw [q] at h1
   obtain ⟨ρ,ih⟩:=Xw hnd hr a b c d L (some (.str w.1)) (some (lD w.2)) fun v hv=>h v (List.mem_cons_of_mem _ hv)
   refine ⟨ρ,?_⟩
   rw [List.find?_cons_of_neg (by simpa using q)]
   exact Eq.trans (wY (d:=cd w) (ρ1:=[a,some (.int r),some nd,b,c,d,some (.str w.1),some (lD w.2)]) rfl (by simp [qB,je,h1,uY])) ih
noncomputable def BO (W:Wy) (seen:List Pr) (r:Int) (ns:List Int):Option Ci:=(CL W 0 seen++JN (FO [] (CL W 0 seen)) (CL W 0 seen)).find? fun w=>qbY w.2 r ns
theorem qdz {seen:List Pr} (hs:(LS seen).length<=20) {W:Wy} (hW:WI seen W) (ha:∀ x∈LS seen,x∈kW W):∀ c∈CL W 0 seen,c.2.length<=100:=by
 intro c hc
 obtain ⟨q,hq,rfl⟩:=List.mem_map.mp hc
 obtain ⟨p,j⟩:=q
 have hj:=List.mem_zipIdx hq
 have hp:p∈seen:=by rw [hj.2.2]; exact List.getElem_mem _
 obtain ⟨h1,h2⟩:=zA ha p hp
 have l1:=hW.len _ (vV h1)
 have l2:=hW.len _ (vV h2)
 have hle:=hW.le
 simp only [] at l1 l2
 unfold Gs
 simp
 omega
theorem Xx (W:Wy) (k0:Nat) (seen:List Pr):(CL W k0 seen).length=seen.length:=by simp [CL]
structure Sn (seen:List Pr) (W:Wy):Prop where
 n:seen.length<=6
 s:(LS seen).length<=12
 w:WI seen W
 C:CI seen W
 R:RI W
 a:∀ x∈LS seen,x∈kW W
 e:ww [sD seen]=.ok (.dct (wD W),[.non])
 z:∀ x∈LS seen,x.length<=2000
theorem Xy {seen:List Pr} {W:Wy} (S:Sn seen W) {nd:D} {ns:List Int} (hnd:qbX nd ns) (hns:ns.length=seen.length) {r:Int} (hr:1<=r) :
  Qg [sD seen,.int r,nd]=.ok (match BO W seen r ns with | some w=>cd w | none=>.non,[.non,.non,.non]):=by
 have hs:(LS seen).length<=20:=by have:=S.s; omega
 have h1:=gm S.n hs S.w S.a
 have hcl:=Xx W 0 seen
 have hn:=S.n
 have h2:=Wi (CL W 0 seen) (by omega)
 have hlen:=qdz hs S.w S.a
 have hlt:=qdv S.w S.a
 obtain ⟨f1,_,f3,f4⟩:=Wh (CL W 0 seen) []
 have hF:∀ c∈FO [] (CL W 0 seen),c∈CL W 0 seen:=fun c hc=>by
  rcases f1 c hc with h | h
  ·cases h
  ·exact h
 unfold BO
 generalize hC:CL W 0 seen=C at h1 h2 hcl hlen hlt f3 hF
 generalize hFo:FO [] C=F at h2 f3 hF
 obtain ⟨x',y',jc⟩:=Xv (F:=F) (fun c hc=>hlen c (hF c hc)) C none none hlen f3
 refine runD_ap.trans ?_
 unfold Qf
 rw [show qw xo [sD seen,.int r,nd]=[some (sD seen),some (.int r),some (nd),none,none,none,none,none] from rfl]
 have hw:=S.e
 refine (qD (ρ1:=[some (sD seen),some (.int r),some (nd),some (.lst (cD C)),none,none,none,none]) (by simp [qB,je,hw,h1])).trans ?_
 refine (qD (ρ1:=[some (sD seen),some (.int r),some (nd),some (.lst (cD C)),some (.dct (fD F)),none,none,none]) (by simp [qB,je,h2])).trans ?_
 have jd:=Qx (own:=[]) (cap:=[4]) (nt:=2) (fi:=vj (qe 3)) (g:=ju 2 (qx (gNm 0) (qx (gNm 1) jt))) (ft:=joT) (fe:=joE) (ρ:=[some (sD seen),some (.int r),some (nd),some (.lst (cD C)),some (.dct (fD F)),none,none,none]) (ρ1:=[some (sD seen),some (.int r),some (nd),some (.lst (cD C)),some (.dct (fD F)),none,none,none]) (ds:=cD C) rfl (by simp [cD]; exact jy (by omega)) jc
 refine (qD (ρ1:=[some (sD seen),some (.int r),some (nd),some (.lst (cD C)),some (.dct (fD F)),some (.lst (cD (JN F C))),none,none]) (by rw [Ko,jd]; rfl)).trans ?_
 have hjl:(JN F C).length<=6:=by
  unfold JN
  rw [List.length_map]
  have:=List.length_filter_le (fun c:Ci=>odd c.2) C
  omega
 have hz:(cD C).length+(cD (JN F C)).length<=sizeLine:=by simp [cD]; exact jy (by omega)
 have hall:∀ w∈C++JN F C,∀ k∈w.2,k < ns.length:=fun w hw k hk=>by
  rw [hns]
  rcases List.mem_append.mp hw with h | h
  ·exact hlt w h k hk
  ·obtain ⟨c,hc,rfl⟩:=List.mem_map.mp h
   have hc:=(List.mem_filter.mp hc).1
   rcases List.mem_append.mp hk with h | h
   ·unfold JQ at h
    cases w:F.find? fun d=>decide (d.1=c.1) with
    | none=>rw [w] at h; cases h
    | some d=>
     rw [w] at h
     exact hlt d (hF d (List.mem_of_find?_eq_some w)) k h
   ·exact hlt c hc k h
 obtain ⟨ρ,e⟩:=Xw hnd hr (some (sD seen)) (some (.lst (cD C))) (some (.dct (fD F))) (some (.lst (cD (JN F C)))) (C++JN F C) none none hall
 have hfor:QV (vj (d2 kz (qe 3) (qe 5))) (ju 2 (qx (gNm 6) (qx (gNm 7) jt))) baB [some (sD seen),some (.int r),some (nd),some (.lst (cD C)),some (.dct (fD F)),some (.lst (cD (JN F C))),none,none]=vc (ju 2 (qx (gNm 6) (qx (gNm 7) jt))) baB (cD (C++JN F C)) [some (sD seen),some (.int r),some (nd),some (.lst (cD C)),some (.dct (fD F)),some (.lst (cD (JN F C))),none,none]:=by
  rw [vF,show vj (d2 kz (qe 3) (qe 5)) [some (sD seen),some (.int r),some (nd),some (.lst (cD C)),some (.dct (fD F)),some (.lst (cD (JN F C))),none,none]=.ok (cD (C++JN F C),[some (sD seen),some (.int r),some (nd),some (.lst (cD C)),some (.dct (fD F)),some (.lst (cD (JN F C))),none,none]) by
   simp [kz,hz,jQ]
   simp [cD]]
  rfl
 cases q:(C++JN F C).find? fun w=>qbY w.2 r ns with
 | some w=>
  rw [q] at e
  rw [Kn,hfor.trans e]
  rfl
 | none=>
  rw [q] at e
  refine (qD (hfor.trans e)).trans ?_
  rfl
theorem Wj {ws:List Str} (hw:ja ws) {p q:Int} (hl:zR p q):vN [Wd ws,Ld p q]=.ok (sD (qK ws p q),[.non,.non]):=xu hw hl
def wA (n:Nat) (r:Int) (ns:List Int):Prop:=ns.length=n/\∀ i∈ns,0<=i/\i < r
theorem Qy {n:Nat} {r:Int} {ns:List Int} (h:wA n r ns) (hn:n<=50):wo [nD ns,.int (n:Nat),.int r]=.ok (.bl true,[.non,.non,.non]):=by
 have ht:=qdl (d:=nD ns) trivial
 have e:=uU (cap:=[2]) (fi:=vj (qe 0)) (ρ:=[some (nD ns),some (.int (n:Nat)),some (.int r)]) (ρ1:=[some (nD ns),some (.int (n:Nat)),some (.int r)]) (ds:=ns.map D.int) (fe:=qt [.vl,.vl,.vl] jo (qd (qe 0) (qd (dC (.int 0)) (qd (d2 JL (qe 1) (dC (.int 1))) qC)))) (fun d=>.bl (KS 0 (r - 1) d)) (by simp [jQ]) (by rw [List.length_map,h.1]; exact jy (by omega)) (fun d hd=>by
  obtain ⟨i,hi,rfl⟩:=List.mem_map.mp hd
  have h1:=kq (d:=.int i) trivial 0 (r - 1)
  simp [qB,je,JL,wT,h1])
 have ha:=Qu (KS 0 (r - 1)) (ns.map D.int)
 have hall:(ns.map D.int).all (KS 0 (r - 1))=true:=by
  rw [List.all_eq_true]
  intro d hd
  obtain ⟨i,hi,rfl⟩:=List.mem_map.mp hd
  have:=h.2 i hi
  simp [KS]
  omega
 rw [hall] at ha
 have hlen:(ns.map D.int).length=n:=by rw [List.length_map,h.1]
 refine runD_ap.trans ?_
 simp [-List.map_map,wn,qw,qv,ht,qbA,uY,ka,neD,eqN,eqS,h.1,e,ha]
theorem yY {n:Nat} {r:Int} {ns:List Int} (h:wA n r ns) (hn:n<=50):kH [nD ns,.int (n:Nat),.int r]=.ok (.non,[.non,.non,.non]):=by
 have h1:=Qy h hn
 refine runD_ap.trans ?_
 simp [kG,qw,qv,qB,je,h1,uY]
theorem qbJ {ws:List Str} (hw:ja ws) {p q:Int} (hl:zR p q) {r:Int} (h0:1<=r) (h1:r<=99) {ns:List Int} (hn:wA ws.length r ns):wt [Wd ws,Ld p q,.int r,nD ns]=.ok (sD (qK ws p q),[.non,.non,.non,.non]):=by
 have e1:=Wj hw hl
 have e2:=Qw (d:=.int r) trivial
 rw [if_pos (by simp [KS]; exact ⟨h0,h1⟩)] at e2
 have e3:=yY hn (by have:=hw.2.1; omega)
 refine runD_ap.trans ?_
 simp [wq,qw,qv,qB,je,e1,e2,ka,e3]
theorem qeV {ws:List Str} (hw:ja ws) (p q:Int):∃ W,Sn (qK ws p q) W:=by
 have h1:(qK ws p q).length<=6:=by simp [qK]; exact hw.2.1
 have h2:=qac hw p q
 obtain ⟨W,a,b,c,d,e⟩:=Ue h1 h2
 exact ⟨W,h1,h2,a,b,c,d,e,fun x hx=>by
  obtain ⟨k,_,rfl⟩:=qeT hw p q x hx
  show 1<=2000
  omega⟩
theorem qdA {ws:List Str} (hw:ja ws) {p q:Int} (hl:zR p q) {r:Int} (h0:1<=r) (h1:r<=99) {ns:List Int} (hn:wA ws.length r ns) {W:Wy} (S:Sn (qK ws p q) W) :
  qbp [Wd ws,Ld p q,.int r,nD ns]=.ok (match BO W (qK ws p q) r ns with | some w=>cd w | none=>.non,[.non,.non,.non,.non]):=by
 have e1:=qbJ hw hl h0 h1 hn
 have e2:=Xy S (qad ns) (by rw [hn.1]; simp [qK]) h0
 refine runD_ap.trans ?_
 simp [qbo,qw,qv,qB,je,e1,e2]
noncomputable def Uf (t r:Int):Int:=if t % r % 2=0 then t % r / 2 else (t % r+r) / 2
theorem qbK (t:Int) {r:Int} (hr:1<=r):YV [.int t,.int r]=.ok (.int (Uf t r),[.non,.non]):=by
 have h0:0 < r:=by omega
 have hc:∀ i,qbS i 2:=fun i=>⟨by omega,by omega⟩
 unfold Uf
 refine runD_ap.trans ?_
 by_cases q:t % r % 2=0 <;> simp [YU,qw,qv,uX,wT,h0,eqD,eqN,eqS,gu,hc,kz,q]
noncomputable def rW (l:Wk) (r:Int) (ns:List Int):List Int:=if l=[] then (List.range r.toNat).map fun (j:Nat)=>(j:Int) else if r % 2=0 then [Uf (yA ns 0 l) r,Uf (yA ns 0 l) r+r / 2] else [Uf (yA ns 0 l) r]
abbrev iD (xs:List Int):D:=.lst (xs.map D.int)
theorem zQ {l:Wk} {ns:List Int} (h:∀ k∈l,k < ns.length) {r:Int} (hr:1<=r) (h9:r<=99):ko [lD l,.int r,nD ns]=.ok (iD (rW l r ns),[.non,.non,.non]):=by
 have z2:2<=sizeLine:=jy (by omega)
 have z1:1<=sizeLine:=jy (by omega)
 have hc:∀ i,qbS i 2:=fun i=>⟨by omega,by omega⟩
 refine runD_ap.trans ?_
 unfold rW
 cases l with
 | nil=>
  have c1:qc3 0 r/\r - 0<=1000000:=⟨⟨⟨by omega,by omega⟩,by omega,by omega⟩,by omega⟩
  have e:uF (.int r)=.ok (.lst ((List.range r.toNat).map fun (j:Nat)=>.int (j:Int))):=by
   unfold uF
   dsimp only
   rw [if_pos c1,Int.sub_zero]
   simp [xc]
  rw [if_pos rfl,show iD ((List.range r.toNat).map fun (j:Nat)=>(j:Int))=.lst ((List.range r.toNat).map fun (j:Nat)=>.int (j:Int)) by simp [iD]]
  simp [jL,qw,qv,ka,inL,eqD,eqN,eqS,e]
 | cons a l=>
  have h1:=zx (qad ns) h 0
  have h2:=qbK (yA ns 0 (a::l)) hr
  have hlen:¬inL (a::l)=[]:=by simp [inL]
  rw [if_neg (by simp)]
  generalize hx:yA ns 0 (a::l)=t at h1 h2
  generalize hy:Uf t r=w at h2
  generalize hz:lD (a::l)=ld at h1
  have hlen2:ka ld=.ok (.int ((inL (a::l)).length:Int)):=by rw [<-hz]; rfl
  by_cases q:r % 2=0
  ·rw [if_pos q]
   simp [jL,qw,qv,hlen2,eqD,eqN,eqS,hlen,qB,je,h1,h2,uX,wT,q,gu,hc,kz,z2]
  ·rw [if_neg q]
   simp [jL,qw,qv,hlen2,eqD,eqN,eqS,hlen,qB,je,h1,h2,uX,wT,q,z1]
noncomputable def RT (W:Wy):List Str:=(kb (kW W)).filter fun x=>decide ((vU W x).1=x)
abbrev Rt:=Str×List Int
noncomputable def rd (x:Rt):D:=.tup [.str x.1,iD x.2]
noncomputable def RO (W:Wy) (seen:List Pr) (r:Int) (ns:List Int):List Rt:=(RT W).map fun x=>(x,rW (JQ (FO [] (CL W 0 seen)) x) r ns)
theorem Xz:∀ W:Wy,Kp (wD W)=some (kW W)
 | []=>rfl
 | e::W=>by
  have ih:=Xz W
  show (Kp (wD W)).map (e.1::·)=_
  rw [ih]
  rfl
theorem Va {seen:List Pr} {W:Wy} (S:Sn seen W) {ns:List Int} (hns:ns.length=seen.length) {r:Int} (hr:1<=r) (h9:r<=99) :
  wK [sD seen,.int r,nD ns]=.ok (.lst ((RO W seen r ns).map rd),[.non,.non,.non]):=by
 have hs:(LS seen).length<=20:=by have:=S.s; omega
 have h1:=gm S.n hs S.w S.a
 have hcl:=Xx W 0 seen
 have hn:=S.n
 have h2:=Wi (CL W 0 seen) (by omega)
 have hlt:=qdv S.w S.a
 obtain ⟨f1,_,f3,f4⟩:=Wh (CL W 0 seen) []
 have hF:∀ c∈FO [] (CL W 0 seen),c∈CL W 0 seen:=fun c hc=>by
  rcases f1 c hc with h | h
  ·cases h
  ·exact h
 unfold RO
 generalize hC:CL W 0 seen=C at h1 h2 hcl hlt f3 hF
 generalize hFo:FO [] C=F at h2 f3 hF
 have hle:=S.w.le
 have hs12:=S.s
 have hk64:(kW W).length < 64:=by simp [kW]; omega
 have hkz:((kW W).all fun y=>decide (y.length<=sizeLine))=true:=by
  rw [List.all_eq_true]
  intro y hy
  exact decide_eq_true (jy (S.z y (S.w.sub y hy)))
 have hso:vG (.dct (wD W))=.ok (.lst ((kb (kW W)).map D.str)):=by
  unfold vG
  simp only [Xz]
  rw [if_pos ⟨hk64,hkz⟩]
 have hsm:∀ x∈kb (kW W),x∈kW W:=fun x hx=>(qQ _).mem_iff.mp hx
 have hsl:(kb (kW W)).length<=12:=by rw [(qQ _).length_eq]; simp [kW]; omega
 refine runD_ap.trans ?_
 unfold yq
 rw [show qw vy [sD seen,.int r,nD ns]=[some (sD seen),some (.int r),some (nD ns),none,none,none] from rfl]
 have hw:=S.e
 refine (qD (ρ1:=[some (sD seen),some (.int r),some (nD ns),some (.dct (wD W)),none,none]) (by simp [qB,je,hw])).trans ?_
 refine (qD (ρ1:=[some (sD seen),some (.int r),some (nD ns),some (.dct (wD W)),some (.dct (fD F)),none]) (by simp [qB,je,h1,h2])).trans ?_
 have c1:=GZ (own:=[]) (cap:=[3]) (fi:=vj (d1 vG (qe 3))) (ft:=qN (d2 eqD (d2 ixD (d2 ixD (qe 1) (qe 0)) (dC (.int 0))) (qe 0))) (fe:=qe 0) (ρ:=[some (sD seen),some (.int r),some (nD ns),some (.dct (wD W)),some (.dct (fD F)),none]) (ρ1:=[some (sD seen),some (.int r),some (nD ns),some (.dct (wD W)),some (.dct (fD F)),none]) (ds:=(kb (kW W)).map D.str) (fun d=>match d with | .str x=>decide ((vU W x).1=x) | _=>false) (fun d=>d) (by simp) (by simp [hso,jQ]) (by rw [List.length_map]; exact jy (by omega)) (fun d hd=>by
  obtain ⟨x,hx,rfl⟩:=List.mem_map.mp hd
  have i1:=KW S.w.nd (hsm x hx)
  simp [i1,qfs,eqD,eqN,eqS]
  rfl) (fun d hd _=>by simp)
 have e1:(((kb (kW W)).map D.str).filter fun d=>match d with | .str x=>decide ((vU W x).1=x) | _=>false).map (fun d=>d)=(RT W).map D.str:=by
  rw [List.map_id',List.filter_map]
  rfl
 rw [e1] at c1
 refine (qD (ρ1:=[some (sD seen),some (.int r),some (nD ns),some (.dct (wD W)),some (.dct (fD F)),some (.lst ((RT W).map D.str))]) (by rw [Ko,c1]; rfl)).trans ?_
 have hRl:(RT W).length<=12:=by
  have:=List.length_filter_le (fun x=>decide ((vU W x).1=x)) (kb (kW W))
  unfold RT
  omega
 have z2:2<=sizeLine:=jy (by omega)
 have c2:=uU (cap:=[1,2,4]) (fi:=vj (qe 5)) (fe:=yE (qd (qe 0) (qd (qt [.vl,.vl,.vl] ko (qd (ZP (qe 3) (qe 0) (xa qC)) (qd (qe 1) (qd (qe 2) qC)))) qC))) (ρ:=[some (sD seen),some (.int r),some (nD ns),some (.dct (wD W)),some (.dct (fD F)),some (.lst ((RT W).map D.str))]) (ρ1:=[some (sD seen),some (.int r),some (nD ns),some (.dct (wD W)),some (.dct (fD F)),some (.lst ((RT W).map D.str))]) (ds:=(RT W).map D.str) (fun d=>match d with | .str x=>rd (x,rW (JQ F x) r ns) | d=>d) (by simp [jQ]) (by rw [List.length_map]; exact jy (by omega)) (fun d hd=>by
  obtain ⟨x,hx,rfl⟩:=List.mem_map.mp hd
  have g1:=qdx F x
  have hgl:∀ k∈JQ F x,k < ns.length:=fun k hk=>by
   unfold JQ at hk
   cases w:F.find? fun d=>decide (d.1=x) with
   | none=>rw [w] at hk; cases hk
   | some d=>
    rw [w] at hk
    rw [hns]
    exact hlt d (hF d (List.mem_of_find?_eq_some w)) k hk
  have h3:=zQ hgl hr h9
  simp [ZP,QA,g1,qB,je,h3,z2,rd])
 have e2:((RT W).map D.str).map (fun d=>match d with | .str x=>rd (x,rW (JQ F x) r ns) | d=>d)=((RT W).map fun x=>(x,rW (JQ F x) r ns)).map rd:=by
  rw [List.map_map,List.map_map]
  rfl
 rw [e2] at c2
 rw [xR,c2]
 rfl
noncomputable def HM (W:Wy) (seen:List Pr) (r:Int) (ns:List Int):Int:=match BO W seen r ns with
 | some _=>0
 | none=>(RO W seen r ns).foldl (fun a x=>a * (x.2.length:Int)) 1
theorem qdB (l:Wk) {r:Int} (hr:1<=r) (h9:r<=99) (ns:List Int):(rW l r ns).length<=99:=by
 unfold rW
 split
 ·simp; omega
 ·split <;> simp
theorem XA (a b c d:Option D):∀ (L:List Rt) (t:Int) (x y:Option D),(∀ w∈L,w.2.length<=99)->∃ x' y',vc (ju 2 (qx (gNm 5) (qx (gNm 6) jt))) (jN 4 (d2 Ui (qe 4) (d1 ka (qe 6)))) (L.map rd) [a,b,c,d,some (.int t),x,y]=.ok (.nx,[a,b,c,d,some (.int (L.foldl (fun a x=>a * (x.2.length:Int)) t)),x',y'])
 | [],t,x,y,_=>⟨x,y,rfl⟩
 | w::L,t,x,y,h=>by
  have hw:=h w (List.mem_cons_self ..)
  obtain ⟨x',y',ih⟩:=XA a b c d L (t * (w.2.length:Int)) (some (.str w.1)) (some (iD w.2)) fun v hv=>h v (List.mem_cons_of_mem _ hv)
  have hc:CMul t (w.2.length:Int):=.inr ⟨by omega,by omega⟩
  refine ⟨x',y',Eq.trans (wY (d:=rd w) (ρ1:=[a,b,c,d,some (.int t),some (.str w.1),some (iD w.2)]) rfl ?_) ih⟩
  simp [ka,Ui,wT,hc]
theorem zB {ws:List Str} (hw:ja ws) {p q:Int} (hl:zR p q) {r:Int} (h0:1<=r) (h9:r<=99) {ns:List Int} (hn:wA ws.length r ns) {W:Wy} (S:Sn (qK ws p q) W) :
  wN [Wd ws,Ld p q,.int r,nD ns]=.ok (.int (HM W (qK ws p q) r ns),[.non,.non,.non,.non]):=by
 have e1:=qdA hw hl h0 h9 hn S
 have e2:=Wj hw hl
 have e3:=Va S (ns:=ns) (by rw [hn.1]; simp [qK]) h0 h9
 refine runD_ap.trans ?_
 unfold HM
 cases qb:BO W (qK ws p q) r ns with
 | some c=>
  rw [qb] at e1
  simp [wM,qw,qv,qB,je,e1,Zl,cd]
 | none=>
  rw [qb] at e1
  obtain ⟨x',y',e4⟩:=XA (some (Wd ws)) (some (Ld p q)) (some (.int r)) (some (nD ns)) (RO W (qK ws p q) r ns) 1 none none (fun w hw=>by
   obtain ⟨x,_,rfl⟩:=List.mem_map.mp hw
   exact qdB _ h0 h9 _)
  unfold wM
  rw [show qw yr [Wd ws,Ld p q,.int r,nD ns]=[some (Wd ws),some (Ld p q),some (.int r),some (nD ns),none,none,none] from rfl]
  refine (qD (ρ1:=[some (Wd ws),some (Ld p q),some (.int r),some (nD ns),none,none,none]) (by simp [qB,je,e1,Zl])).trans ?_
  refine (qD (ρ1:=[some (Wd ws),some (Ld p q),some (.int r),some (nD ns),some (.int 1),none,none]) (by simp)).trans ?_
  refine (qD (ρ1:=[some (Wd ws),some (Ld p q),some (.int r),some (nD ns),some (.int ((RO W (qK ws p q) r ns).foldl (fun a x=>a * (x.2.length:Int)) 1)),x',y']) (by
   rw [vF,show vj (qt [.vl,.vl,.vl] wK (qd (qt [.vl,.vl] vN (qd (qe 0) (qd (qe 1) qC))) (qd (qe 2) (qd (qe 3) qC)))) [some (Wd ws),some (Ld p q),some (.int r),some (nD ns),some (.int 1),none,none]=.ok ((RO W (qK ws p q) r ns).map rd,[some (Wd ws),some (Ld p q),some (.int r),some (nD ns),some (.int 1),none,none]) by simp [qB,je,e2,e3,jQ],vf]
   exact e4)).trans ?_
  simp [qv]
theorem qeW (l:List Pr):(LS l).Nodup:=(qQ _).nodup_iff.mpr (uV _ [] List.nodup_nil).1
theorem Gu {l:List (Str×Int)} (h:(zw l).Nodup):Jp (.lst (prL l))=.ok (.dct (bk l)):=by
 have:=Xk l [] h (by simp)
 unfold Jp
 simp only [JF]
 rw [this]
 rfl
noncomputable def Vb (l:List (Str×Int)) (s:List Pr) (r:Int):List Int:=s.map fun x=>(JP l x.1+JP l x.2) % r
theorem Gv (l:List (Str×Int)) (s:List Pr) (r:Int):qdo l s r=(Vb l s r).map D.int:=by
 unfold qdo Vb
 rw [List.map_map]
 rfl
theorem iR0 {f:Sl->Out (D×Sl)} {ρ ρ1:Sl} {k:Int} (h0:0<=k) (h1:k<=2000) (h:f ρ=.ok (.int k,ρ1)):jH f ρ=.ok (xc 0 k.toNat,ρ1):=by
 have c1:-(2 ^ 62:Int)<=k/\k < 2 ^ 62:=by omega
 simp [jH,h,-Int.reducePow,c1]
abbrev stB:Sl->Out (Fl×Sl):=VN 9 (qt [.vl,.sl 1,.vl] jv (qd (qe 0) (jY (qd (qe 5) qC)))) (qt [.vl,.sl 1,.vl] jv (qd (qe 0) (jY (qd (d1 ka (qe 9)) qC))))
theorem XB (ns0:List Int) {n:Nat} (hn:1<=n) {r:Int} (hr:1<=r) (a b c d e f:Option D):∀ (ks:List D) (town:List D) (ns:List Int) (x:Option D),town.length+2 * ks.length < 900->wA n r ns ->
  ∃ (town':List D) (ns':List Int) (x':Option D),town'.length=town.length+2 * ks.length/\wA n r ns'/\vc (gNm 10) stB ks [some (scr ns0),some (.lst town),a,b,c,some (.int r),d,e,f,some (iD ns),x]=.ok (.nx,[some (scr ns0),some (.lst town'),a,b,c,some (.int r),d,e,f,some (iD ns'),x'])
 | [],town,ns,x,_,h=>⟨town,ns,x,by simp,h,rfl⟩
 | k::ks,town,ns,x,ht,h=>by
  rw [List.length_cons] at ht
  obtain ⟨v,v0,v1,g1⟩:=vi ns0 town (many:=r) (by omega) (by omega)
  obtain ⟨i,i0,i1,g2⟩:=vi ns0 (town++[.int 0]) (many:=(ns.length:Int)) (by rw [h.1]; omega) (by rw [List.length_append]; simp; omega)
  obtain ⟨j,rfl⟩:=Int.eq_ofNat_of_zero_le i0
  have hj:j < ns.length:=by omega
  have h':wA n r (ns.set j v):=⟨by rw [List.length_set]; exact h.1,fun y hy=>by
   rcases List.mem_or_eq_of_mem_set hy with hy | rfl
   ·exact h.2 y hy
   ·exact ⟨v0,v1⟩⟩
  obtain ⟨town',ns',x',b1,b2,b3⟩:=XB ns0 hn hr a b c d e f ks (town++[.int 0]++[.int 0]) (ns.set j v) (some k) (by rw [List.length_append,List.length_append]; simp; omega) h'
  refine ⟨town',ns',x',by rw [b1,List.length_append,List.length_append,List.length_cons]; simp; omega,b2,Eq.trans (wY (ρ1:=[some (scr ns0),some (.lst town),a,b,c,some (.int r),d,e,f,some (iD ns),some k]) rfl ?_) b3⟩
  have hix:ixN (ns.map D.int).length (j:Int)=some j:=by
   unfold ixN
   rw [List.length_map,if_pos (by omega),if_pos (by omega),Int.toNat_natCast]
  have hset:(ns.map D.int).set j (.int v)=(ns.set j v).map D.int:=by rw [List.map_set]
  have hlen:ka (iD ns)=.ok (.int (ns.length:Int)):=by simp [ka]
  simp only [stB,VN]
  simp only [ZM,ZJ,ZK,qa9,Kl,Km,List.getElem?_cons_succ,List.getElem?_cons_zero,vf]
  simp [qB,je,g1,hlen,g2]
  simp at hix hset
  simp [hix,hset]
structure Told (ws:List Str) (p q r:Int) (ns:List Int):Prop where
 w:ja ws
 w5:ws.length<=5
 l:zR p q
 r0:1<=r
 r9:r<=6
 n:wA ws.length r ns
theorem Vc (ns0:List Int) (town:List D) (ht:town.length < 300):∃ ws p q r ns town',Told ws p q r ns/\town'.length<=town.length+200 /\
  KP [scr ns0,.lst town,.int 5,.int 6]=.ok (.tup [Wd ws,Ld p q,.int r,nD ns],[.non,.lst town',.non,.non]):=by
 obtain ⟨sp,s0,s1,g1⟩:=vi ns0 town (many:=4) (by omega) (by omega)
 obtain ⟨r',r0,r1,g2⟩:=vi ns0 (town++[.int 0]) (many:=6) (by omega) (by rw [List.length_append]; simp; omega)
 obtain ⟨p,q,t3,hl,ht3,g3⟩:=qby ns0 (town++[.int 0]++[.int 0]) (by rw [List.length_append,List.length_append]; simp; omega)
 rw [List.length_append,List.length_append] at ht3
 simp at ht3
 obtain ⟨ws,t4,hw,h5,ht4,g4⟩:=Gp ns0 t3 (by omega)
 have hLn:=qac hw p q
 obtain ⟨es,t5,x5,k5,b5,ht5,c5⟩:=gk ns0 (room:=1+r') (by omega) (LS (qK ws p q)) t4 none (by omega)
 have hnd:(zw es).Nodup:=by rw [k5]; exact qeW _
 have hd:=Gu hnd
 have hll:=zO hw hl
 have hby:=Xm hw hl (r:=1+r') (by omega) (l:=es) (by rw [k5]; exact fun x hx=>hx)
 rw [Gv] at hby
 have hsl:(qK ws p q).length=ws.length:=by simp [qK]
 have hn0:wA ws.length (1+r') (Vb es (qK ws p q) (1+r')):=⟨by unfold Vb; rw [List.length_map,hsl],fun y hy=>by
  obtain ⟨x,_,rfl⟩:=List.mem_map.mp hy
  exact ⟨Int.emod_nonneg _ (by omega),Int.emod_lt_of_pos _ (by omega)⟩⟩
 have hcnt:0<=sp / 2 * (1+sp % 2)/\sp / 2 * (1+sp % 2)<=2:=by
  have:sp=0\/sp=1\/sp=2\/sp=3:=by omega
  rcases this with rfl | rfl | rfl | rfl <;> decide
 generalize hm:sp / 2 * (1+sp % 2)=m at hcnt
 have hrl:(xc 0 m.toNat).length=m.toNat:=by simp [xc]
 obtain ⟨t6,ns,x6,ht6,hns,e6⟩:=XB ns0 (n:=ws.length) (hw.1) (r:=1+r') (by omega) (some (.int 5)) (some (.int 6)) (some (.int sp)) (some (Ld p q)) (some (Wd ws)) (some (.dct (bk es))) (xc 0 m.toNat) t5 _ none (by rw [hrl]; omega) hn0
 rw [hrl] at ht6
 refine ⟨ws,p,q,1+r',ns,t6,⟨hw,h5,hl,by omega,by omega,hns⟩,by omega,?_⟩
 refine runD_ap.trans ?_
 unfold KO
 rw [show qw Qs [scr ns0,.lst town,.int 5,.int 6]=[some (scr ns0),some (.lst town),some (.int 5),some (.int 6),none,none,none,none,none,none,none] from rfl]
 refine (qD (ρ1:=[some (scr ns0),some (.lst (town++[.int 0])),some (.int 5),some (.int 6),some (.int sp),none,none,none,none,none,none]) (by simp [qB,je,g1])).trans ?_
 refine (qD (ρ1:=[some (scr ns0),some (.lst (town++[.int 0]++[.int 0])),some (.int 5),some (.int 6),some (.int sp),some (.int (1+r')),none,none,none,none,none]) (by simp [qB,je,g2,kz])).trans ?_
 refine (qD (ρ1:=[some (scr ns0),some (.lst t3),some (.int 5),some (.int 6),some (.int sp),some (.int (1+r')),some (Ld p q),none,none,none,none]) (by
  simp only [List.append_assoc,List.cons_append,List.nil_append] at g3 ⊢
  simp [qB,je,g3])).trans ?_
 refine (qD (ρ1:=[some (scr ns0),some (.lst t4),some (.int 5),some (.int 6),some (.int sp),some (.int (1+r')),some (Ld p q),some (Wd ws),none,none,none]) (by simp [qB,je,g4])).trans ?_
 have d5:=Qx (own:=[1]) (cap:=[0,1,5]) (nt:=1) (fi:=vj (qt [.vl,.vl] wR (qd (qe 7) (qd (qe 6) qC)))) (g:=gNm 0) (ft:=ftT) (fe:=yE (qd (qe 0) (qd (qt [.vl,.sl 2,.vl] jv (qd (qe 1) (jY (qd (qe 3) qC)))) qC))) (ρ:=[some (scr ns0),some (.lst t4),some (.int 5),some (.int 6),some (.int sp),some (.int (1+r')),some (Ld p q),some (Wd ws),none,none,none]) (ρ1:=[some (scr ns0),some (.lst t4),some (.int 5),some (.int 6),some (.int sp),some (.int (1+r')),some (Ld p q),some (Wd ws),none,none,none]) (ds:=(LS (qK ws p q)).map D.str) (by simp [qB,je,hll,jQ]) (by rw [List.length_map]; exact jy (by omega)) c5
 refine (qD (ρ1:=[some (scr ns0),some (.lst t5),some (.int 5),some (.int 6),some (.int sp),some (.int (1+r')),some (Ld p q),some (Wd ws),some (.dct (bk es)),none,none]) (by
  rw [Ko,Km,d5,vf]
  simp only []
  rw [hd]
  rfl)).trans ?_
 refine (qD (ρ1:=[some (scr ns0),some (.lst t5),some (.int 5),some (.int 6),some (.int sp),some (.int (1+r')),some (Ld p q),some (Wd ws),some (.dct (bk es)),some (iD (Vb es (qK ws p q) (1+r'))),none]) (by simp [qB,je,hby,WH])).trans ?_
 have hcd:qbS sp 2:=⟨by omega,by omega⟩
 have hcm:CMul (sp / 2) (1+sp % 2):=.inr ⟨by omega,by omega⟩
 have hri:=iR0 (f:=d2 Ui (d2 gu (qe 4) (dC (.int 2))) (d2 kz (dC (.int 1)) (d2 uX (qe 4) (dC (.int 2))))) (ρ:=[some (scr ns0),some (.lst t5),some (.int 5),some (.int 6),some (.int sp),some (.int (1+r')),some (Ld p q),some (Wd ws),some (.dct (bk es)),some (iD (Vb es (qK ws p q) (1+r'))),none]) (ρ1:=[some (scr ns0),some (.lst t5),some (.int 5),some (.int 6),some (.int sp),some (.int (1+r')),some (Ld p q),some (Wd ws),some (.dct (bk es)),some (iD (Vb es (qK ws p q) (1+r'))),none]) (k:=m) hcnt.1 (by omega) (by
  simp [gu,uX,Ui,wT,kz,hcd,hcm,hm])
 refine (qD (ρ1:=[some (scr ns0),some (.lst t6),some (.int 5),some (.int 6),some (.int sp),some (.int (1+r')),some (Ld p q),some (Wd ws),some (.dct (bk es)),some (iD ns),x6]) (by rw [vF,hri,vf]; exact e6)).trans ?_
 have z4:4<=sizeLine:=jy (by omega)
 simp [vW,z4,qv]
noncomputable def rv (w:Str):Str:=⟨⟨w.cps.toList.reverse⟩⟩
theorem qbL {w:Str} (h:KR w):KR (rv w):=⟨by show 1<=(w.cps.toList.reverse).length; rw [List.length_reverse]; exact h.1,by show (w.cps.toList.reverse).length<=6; rw [List.length_reverse]; exact h.2.1,fun c hc=>h.2.2 c (List.mem_reverse.mp hc)⟩
theorem qbM (w:Str):rv (rv w)=w:=by
 obtain ⟨⟨l⟩⟩:=w
 show (⟨⟨l.reverse.reverse⟩⟩:Str)=_
 rw [List.reverse_reverse]
theorem qdC {w:Str} (h:KR w):slD none none (some (-1)) (.str w)=.ok (.str (rv w)):=by
 rcases zt h with ⟨a,rfl⟩ | ⟨a,b,rfl⟩ | ⟨a,b,c,rfl⟩ | ⟨a,b,c,d,rfl⟩ | ⟨a,b,c,d,e,rfl⟩ | ⟨a,b,c,d,e,f,rfl⟩ <;> kernel_rfl
theorem qai {w:Str} (h:KR w) {p:Int} (hp:-3<=p/\p<=2):JO (rv w) (-1 - p)=JO w p:=by
 have hp':p=-3\/p=-2\/p=-1\/p=0\/p=1\/p=2:=by omega
 rcases hp' with rfl | rfl | rfl | rfl | rfl | rfl <;> rcases zt h with ⟨a,rfl⟩ | ⟨a,b,rfl⟩ | ⟨a,b,c,rfl⟩ | ⟨a,b,c,d,rfl⟩ | ⟨a,b,c,d,e,rfl⟩ | ⟨a,b,c,d,e,f,rfl⟩ <;> kernel_rfl
noncomputable def rvs (ws:List Str):List Str:=ws.map rv
theorem qdD {ws:List Str} (h:ja ws):ja (rvs ws):=by
 refine ⟨by unfold rvs; rw [List.length_map]; exact h.1,by unfold rvs; rw [List.length_map]; exact h.2.1,?_,fun w hw=>?_⟩
 ·unfold rvs List.Nodup
  rw [List.pairwise_map]
  refine List.Pairwise.imp (fun {a b} hab=>fun z=>hab ?_) h.2.2.1
  rw [<-qbM a,<-qbM b,z]
 ·obtain ⟨x,hx,rfl⟩:=List.mem_map.mp hw
  exact qbL (h.2.2.2 x hx)
theorem qbN (ws:List Str):rvs (rvs ws)=ws:=by
 unfold rvs
 rw [List.map_map]
 have:(rv ∘ rv)=id:=funext fun w=>qbM w
 rw [this,List.map_id]
theorem qbO {p q:Int} (h:zR p q):zR (-1 - p) (-1 - q):=⟨⟨by have:=h.1.2; omega,by have:=h.1.1; omega⟩,by have:=h.2.2; omega,by have:=h.2.1; omega⟩
theorem qbP {ws:List Str} (h:ja ws) {p q:Int} (hl:zR p q):qK (rvs ws) (-1 - p) (-1 - q)=qK ws p q:=by
 unfold qK rvs
 rw [List.map_map]
 refine List.map_congr_left fun w hw=>?_
 show (JO (rv w) (-1 - p),JO (rv w) (-1 - q))=_
 rw [qai (h.2.2.2 w hw) hl.1,qai (h.2.2.2 w hw) hl.2]
theorem JH {p q:Int} (hl:zR p q):uK [Ld p q]=.ok (Ld (-1 - p) (-1 - q),[.non]):=by
 have h1:=uW hl
 have z2:2<=sizeLine:=jy (by omega)
 refine runD_ap.trans ?_
 simp [gT,qw,qv,qB,je,h1,WG,JL,wT,ixD,at0,at1,z2]
theorem zC {ws:List Str} (hw:ja ws):vx [Wd ws]=.ok (Wd (rvs ws),[.non]):=by
 have h1:=wX hw
 have hl:=hw.2.1
 have e:=uU (cap:=[]) (fi:=vj (qe 0)) (fe:=VB (qe 0) none none (some (d1 WG (dC (.int 1))))) (ρ:=[some (Wd ws)]) (ρ1:=[some (Wd ws)]) (ds:=ws.map D.str) (fun d=>match d with | .str x=>.str (rv x) | d=>d) (by simp [jQ]) (by rw [List.length_map]; exact jy (by omega)) (fun d hd=>by
  obtain ⟨w,hw2,rfl⟩:=List.mem_map.mp hd
  have:=qdC (hw.2.2.2 w hw2)
  simp [VB,gE,WG,this])
 have e2:(ws.map D.str).map (fun d=>match d with | .str x=>D.str (rv x) | d=>d)=(rvs ws).map D.str:=by
  unfold rvs
  rw [List.map_map,List.map_map]
  rfl
 rw [e2] at e
 refine runD_ap.trans ?_
 simp [ym,qw,qv,qB,je,h1,e,vW]
theorem Wl:∀ (ds:List D) (cs:List D) (x:Option D),ds.length=cs.length->∃ x',jp (gNm 0) ftT (Jo 1) ds [x,some (.lst cs)]=.ok (cs.reverse,[x',some (.lst [])])
 | [],cs,x,h=>by
  have:cs=[]:=List.eq_nil_of_length_eq_zero h.symm
  subst this
  exact ⟨x,rfl⟩
 | d::ds,cs,x,h=>by
  rw [List.length_cons] at h
  have hne:cs≠[]:=fun z=>by rw [z] at h; cases h
  have hd:=List.dropLast_concat_getLast hne
  generalize cs.getLast hne=c at hd
  generalize cs.dropLast=cs0 at hd
  subst hd
  obtain ⟨x',ih⟩:=Wl ds cs0 (some d) (by rw [List.length_append] at h; simpa using h)
  refine ⟨x',?_⟩
  simp [jp,yU,Jo,ih]
theorem Gw {w:Str} (hw:KR w) (due:List D) (hd:due.length<=1000) (a b c d e f g h i:Option D) :
  (qR (jN 10 (d1 Jn (qe 5))) (qR (kg (zX 4 zH (d1 (zK "") (jn [10,4,1] 1 [10] (jH (d1 ka (qe 5))) (gNm 0) ftT (Jo 1))))) ji)) [a,b,c,d,some (.lst due),some (.str w),e,f,g,h,i]=.ok (.nx,[a,b,c,d,some (.lst (due++[.str (rv w)])),some (.str w),e,f,g,h,some (.lst [])]):=by
 obtain ⟨⟨l⟩⟩:=w
 have hl6:l.length<=6:=hw.2.1
 rw [qbE (ρ1:=[a,b,c,d,some (.lst due),some (.str ⟨⟨l⟩⟩),e,f,g,h,some (.lst (vd ⟨⟨l⟩⟩))]) (by simp [Jn])]
 have hri:jH (d1 ka (qe 5)) [a,b,c,d,some (.lst due),some (.str ⟨⟨l⟩⟩),e,f,g,h,some (.lst (vd ⟨⟨l⟩⟩))]=.ok (xc 0 l.length,[a,b,c,d,some (.lst due),some (.str ⟨⟨l⟩⟩),e,f,g,h,some (.lst (vd ⟨⟨l⟩⟩))]):=by
  have hlen:ka (.str ⟨⟨l⟩⟩)=.ok (.int (l.length:Int)):=rfl
  rw [iR0 (k:=(l.length:Int)) (ρ1:=[a,b,c,d,some (.lst due),some (.str ⟨⟨l⟩⟩),e,f,g,h,some (.lst (vd ⟨⟨l⟩⟩))]) (by omega) (by omega) (by simp [hlen]),Int.toNat_natCast]
 obtain ⟨x',pc⟩:=Wl (xc 0 l.length) (vd ⟨⟨l⟩⟩) none (by simp [xc,vd])
 have dc:=Qx (own:=[10,4,1]) (cap:=[10]) (nt:=1) (fi:=jH (d1 ka (qe 5))) (g:=gNm 0) (ft:=ftT) (fe:=Jo 1) hri (by simp [xc]; exact jy (by omega)) pc
 have hout:jq [10,4,1] [x',some (.lst [])] 1 [10] [a,b,c,d,some (.lst due),some (.str ⟨⟨l⟩⟩),e,f,g,h,some (.lst (vd ⟨⟨l⟩⟩))]=[a,b,c,d,some (.lst due),some (.str ⟨⟨l⟩⟩),e,f,g,h,some (.lst [])]:=rfl
 rw [hout] at dc
 have hcr:(vd ⟨⟨l⟩⟩).reverse=(l.reverse.map fun c=>(⟨#[c]⟩:Str)).map D.str:=by
  unfold vd
  rw [List.map_map,<-List.map_reverse]
  rfl
 rw [hcr] at dc
 have hj:zK (Str.ofString "") (.lst ((l.reverse.map fun c=>(⟨#[c]⟩:Str)).map D.str))=.ok (.str ⟨⟨l.reverse⟩⟩):=by
  have h2:=Qt l.reverse
  have h3:=JB l.reverse
  have h0:Str.length (Str.ofString "")=0:=by decide +kernel
  have hrl:l.reverse.length<=6:=by rw [List.length_reverse]; exact hl6
  unfold zK
  simp only [vA]
  rw [if_pos ⟨by rw [h2,h0]; omega,by rw [h3]; exact jy (by show l.reverse.length<=2000; omega)⟩,h3]
 have hz:due.length < sizeLine:=Nat.lt_of_lt_of_le (Nat.lt_of_le_of_lt hd (by decide)) big
 have hi:yc ([a,b,c,d,some (.lst due),some (.str ⟨⟨l⟩⟩),e,f,g,h,some (.lst (vd ⟨⟨l⟩⟩))]:Sl)[4]?=true:=rfl
 rw [qbE (ρ1:=[a,b,c,d,some (.lst (due++[.str (rv ⟨⟨l⟩⟩)])),some (.str ⟨⟨l⟩⟩),e,f,g,h,some (.lst [])]) (by
  rw [ZL,qbb,if_pos hi,Km,dc,vf]
  simp only []
  rw [hj]
  simp [zH,hz,rv])]
 rfl
theorem Wm (a b c d e f g h:Option D):∀ (ws:List Str) (due:List Str) (x i:Option D),(∀ w∈ws,KR w)->due.length+ws.length<=500 ->
  ∃ x' i',vc (gNm 5) (qR (jN 10 (d1 Jn (qe 5))) (qR (kg (zX 4 zH (d1 (zK "") (jn [10,4,1] 1 [10] (jH (d1 ka (qe 5))) (gNm 0) ftT (Jo 1))))) ji)) (ws.map D.str) [a,b,c,d,some (.lst (due.map D.str)),x,e,f,g,h,i]=.ok (.nx,[a,b,c,d,some (.lst ((due++rvs ws).map D.str)),x',e,f,g,h,i'])
 | [],due,x,i,_,_=>⟨x,i,by simp [rvs,vc]⟩
 | w::ws,due,x,i,hw,hl=>by
  rw [List.length_cons] at hl
  have t:=Gw (hw w (List.mem_cons_self ..)) (due.map D.str) (by rw [List.length_map]; omega) a b c d e f g h i
  obtain ⟨x',i',ih⟩:=Wm a b c d e f g h ws (due++[rv w]) (some (.str w)) (some (.lst [])) (fun v hv=>hw v (List.mem_cons_of_mem _ hv)) (by rw [List.length_append]; simp; omega)
  refine ⟨x',i',Eq.trans (wY (d:=.str w) (ρ1:=[a,b,c,d,some (.lst (due.map D.str)),some (.str w),e,f,g,h,i]) rfl t) ?_⟩
  rw [show due.map D.str++[.str (rv w)]=(due++[rv w]).map D.str by simp]
  refine Eq.trans ih ?_
  rw [show (due++[rv w])++rvs ws=due++rvs (w::ws) by simp [rvs]]
noncomputable def al (x y:Str×Str):Bool:=decide (x=y)||decide (x=(y.2,y.1))
theorem al_iff {x y:Str×Str}:al x y=true↔x=y\/x=(y.2,y.1):=by simp [al]
theorem qbQ (x:Str×Str):al x x=true:=al_iff.mpr (.inl rfl)
noncomputable def pa (l:List (Str×Str)) (i:Nat):Str×Str:=(l[i]?).getD ("", "")
theorem qdE {l:List (Str×Str)} {i:Nat} (h:i < l.length):(jh l)[i]?=some (pD (pa l i)):=by
 unfold jh pa
 rw [List.getElem?_map,List.getElem?_eq_getElem h]
 rfl
noncomputable def grp (l:List (Str×Str)) (i:Nat):List Nat:=(List.range l.length).filter fun j=>al (pa l i) (pa l j)
noncomputable def Gx (l:List (Str×Str)) (i:Nat):Bool:=(List.range i).all fun j=>!al (pa l i) (pa l j)
noncomputable def AL (l:List (Str×Str)):List (List Nat):=((List.range l.length).filter (Gx l)).map (grp l)
theorem fst1_iff {l:List (Str×Str)} {i:Nat}:Gx l i=true↔∀ j,j < i->al (pa l i) (pa l j)=false:=by
 unfold Gx
 rw [List.all_eq_true]
 simp
theorem Gy {l:List (Str×Str)} {i:Nat} (h:i < l.length):∃ k rest,grp l i=k::rest/\(k=i↔Gx l i=true):=by
 have e:List.range l.length=List.range i++i::List.range' (i+1) (l.length - i - 1):=by
  rw [List.range_eq_range',List.range_eq_range',<-List.range'_succ]
  have:=List.range'_append_1 (s:=0) (m:=i) (n:=l.length - i - 1+1)
  rw [Nat.zero_add] at this
  rw [this]
  congr 1
  omega
 unfold grp
 rw [e,List.filter_append,List.filter_cons_of_pos (p:=fun j=>al (pa l i) (pa l j)) (qbQ _)]
 cases q:(List.range i).filter fun j=>al (pa l i) (pa l j) with
 | nil=>
  refine ⟨i,_,rfl,fun _=>fst1_iff.mpr fun j hj=>?_,fun _=>rfl⟩
  have:=List.filter_eq_nil_iff.mp q j (List.mem_range.mpr hj)
  simpa using this
 | cons k t=>
  have hk:k∈(List.range i).filter fun j=>al (pa l i) (pa l j):=by rw [q]; exact List.mem_cons_self ..
  obtain ⟨h1,h2⟩:=List.mem_filter.mp hk
  have h1:=List.mem_range.mp h1
  refine ⟨k,_,rfl,fun z=>absurd z (by omega),fun z=>?_⟩
  have:=fst1_iff.mp z k h1
  rw [this] at h2
  cases h2
noncomputable def gD (g:List Nat):D:=.lst (g.map fun (j:Nat)=>.int j)
theorem JI (x y:Str×Str):jT [pD x,pD y]=.ok (.bl (al x y),[.non,.non]):=by
 obtain ⟨a,b⟩:=x
 obtain ⟨c,d⟩:=y
 refine runD_ap.trans ?_
 have hz:2<=sizeLine:=jy (by omega)
 by_cases h1:a=c/\b=d
 ·obtain ⟨rfl,rfl⟩:=h1
  simp [vP,qw,qv,pD,eqD,eqN,wc,eqS,al]
 ·have e1:(a == c&&b == d)=false:=by
   cases q:(a == c&&b == d) with
   | false=>rfl
   | true=>simp at q; exact absurd q h1
  have e2:¬((a,b)=(c,d)):=fun z=>h1 ⟨congrArg Prod.fst z,congrArg Prod.snd z⟩
  have e3:(a == d&&b == c)=decide ((a,b)=(d,c)):=by
   by_cases q:(a,b)=(d,c)
   ·rw [decide_eq_true q]
    cases q
    simp
   ·rw [decide_eq_false q]
    cases q':(a == d&&b == c) with
    | false=>rfl
    | true=>simp at q'; exact absurd (by rw [q'.1,q'.2]) q
  have hal:al (a,b) (c,d)=decide ((a,b)=(d,c)):=by
   unfold al
   rw [decide_eq_false e2]
   rfl
  rw [hal,<-e3]
  simp [vP,qw,qv,pD,eqD,eqN,wc,eqS,e1,ixD,atI,ixN,hz]
theorem Wn {l:List (Str×Str)}:xS (jh l)=(List.range l.length).map fun (j:Nat)=>.tup [.int j,pD (pa l j)]:=by
 refine List.ext_getElem? fun j=>?_
 unfold xS
 rw [List.getElem?_map,List.getElem?_map,List.getElem?_zipIdx]
 by_cases h:j < l.length
 ·rw [qdE h,List.getElem?_range h]
  simp
 ·have hn:(jh l).length=l.length:=by simp [jh]
  rw [List.getElem?_eq_none (by omega),List.getElem?_eq_none (by simp; omega)]
  rfl
abbrev qeX:Sl->Out (Fl×Sl):=(qR (jN 6 (jn [3] 2 [5] (yf (qe 2)) (ju 2 (qx (gNm 0) (qx (gNm 1) jt))) (xD (qt [.vl,.vl] jT (qd (qe 2) (qd (qe 1) qC)))) (qe 0)))
  (sIf (qN (d2 eqD (d2 ixD (qe 6) (dC (.int 0))) (qe 4))) (kg (zX 3 zH (qe 6))) ji))
theorem Gz {l:List (Str×Str)} (hl:l.length<=100) {a b c d x:Option D} {i:Nat} {own:List Nat} (ho:5∉own):jn own 2 [5] (yf (qe 2)) (ju 2 (qx (gNm 0) (qx (gNm 1) jt))) (xD (qt [.vl,.vl] jT (qd (qe 2) (qd (qe 1) qC)))) (qe 0) [a,b,some (.lst (jh l)),c,d,some (pD (pa l i)),x]
  = .ok (gD (grp l i),[a,b,some (.lst (jh l)),c,d,some (pD (pa l i)),x]):=by
 have e:=Xg (own:=own) (cap:=[5]) (fi:=yf (qe 2)) (ft:=xD (qt [.vl,.vl] jT (qd (qe 2) (qd (qe 1) qC)))) (fe:=qe 0) (ρ:=[a,b,some (.lst (jh l)),c,d,some (pD (pa l i)),x]) (ρ1:=[a,b,some (.lst (jh l)),c,d,some (pD (pa l i)),x])
  (ps:=(List.range l.length).map fun (j:Nat)=>(D.int j,pD (pa l j))) (fun p=>match p.1 with | .int j=>al (pa l i) (pa l j.toNat) | _=>false) (fun p=>p.1) (by simpa using ho) (by simp [yf,Wn,Function.comp_def]) (by simp; exact jy (by omega))
  (fun p hp=>by
   obtain ⟨j,hj,rfl⟩:=List.mem_map.mp hp
   have h:=JI (pa l i) (pa l j)
   simp [qB,je,h,uY]) (fun p hp _=>rfl)
 rw [e]
 congr 2
 unfold gD grp
 congr 1
 rw [List.filter_map,List.map_map]
 rfl
theorem yB {l:List (Str×Str)} (hl:l.length<=100) (a b:Option D):∀ (js:List Nat) (found:List D) (x y z:Option D),(∀ j∈js,j < l.length)->found.length+js.length<=100 ->
  ∃ x' y' z',vc (ju 2 (qx (gNm 4) (qx (gNm 5) jt))) qeX (js.map fun (j:Nat)=>.tup [.int j,pD (pa l j)]) [a,b,some (.lst (jh l)),some (.lst found),x,y,z]
   = .ok (.nx,[a,b,some (.lst (jh l)),some (.lst (found++((js.filter (Gx l)).map fun i=>gD (grp l i)))),x',y',z'])
 | [],found,x,y,z,_,_=>⟨x,y,z,by simp [vc]⟩
 | j::js,found,x,y,z,hj,hf=>by
  rw [List.length_cons] at hf
  have hz:found.length < sizeLine:=Nat.lt_of_lt_of_le (by omega) big
  have hc:=Gz hl (a:=a) (b:=b) (c:=some (.lst found)) (d:=some (.int j)) (x:=z) (i:=j) (own:=[3]) (by simp)
  obtain ⟨k,rest,hg,hk⟩:=Gy (hj j (List.mem_cons_self ..))
  have h0:atI ((grp l j).map fun (j:Nat)=>D.int j) 0=some (.int k):=by
   rw [show (0:Int)=((0:Nat):Int) from rfl,vC,hg]
   rfl
  by_cases q:k=j
  ·obtain ⟨x',y',z',e⟩:=yB hl a b js (found++[gD (grp l j)]) (some (.int j)) (some (pD (pa l j))) (some (gD (grp l j))) (fun i hi=>hj i (List.mem_cons_of_mem _ hi)) (by rw [List.length_append]; simp; omega)
   refine ⟨x',y',z',?_⟩
   rw [List.filter_cons_of_pos (hk.mp q),show found++((j::js.filter (Gx l)).map fun i=>gD (grp l i))=found++[gD (grp l j)]++((js.filter (Gx l)).map fun i=>gD (grp l i)) by simp,<-e]
   have h1:gD (grp l j)=.lst ((grp l j).map fun (j:Nat)=>D.int j):=rfl
   simp [vc,ju,qx,jt,qeX,hc,h1,ixD,h0,eqD,eqN,eqS,q,yc,zH,hz]
  ·obtain ⟨x',y',z',e⟩:=yB hl a b js found (some (.int j)) (some (pD (pa l j))) (some (gD (grp l j))) (fun i hi=>hj i (List.mem_cons_of_mem _ hi)) (by omega)
   refine ⟨x',y',z',?_⟩
   have hn:¬Gx l j=true:=fun z=>q (hk.mpr z)
   have q':¬((k:Int)=(j:Int)):=by omega
   rw [List.filter_cons_of_neg hn,<-e]
   have h1:gD (grp l j)=.lst ((grp l j).map fun (j:Nat)=>D.int j):=rfl
   simp [vc,ju,qx,jt,qeX,hc,h1,ixD,h0,eqD,eqN,eqS,q']
noncomputable def ALd (l:List (Str×Str)):D:=.lst ((AL l).map gD)
theorem GA (ws:List Str) (p q:Int):(qK ws p q).length=ws.length:=by simp [qK]
theorem Wo {ws:List Str} (hw:ja ws) {p q:Int} (hl:zR p q):gS [Wd ws,Ld p q]=.ok (ALd (qK ws p q),[.non,.non]):=by
 refine runD_ap.trans ?_
 have h:=xu hw hl
 have hn:=GA ws p q
 have h6:=hw.2.1
 obtain ⟨x',y',z',e⟩:=yB (l:=qK ws p q) (by omega) (some (Wd ws)) (some (Ld p q)) (List.range (qK ws p q).length) [] none none none (fun j hj=>List.mem_range.mp hj) (by simp; omega)
 have e2:((List.range (qK ws p q).length).filter (Gx (qK ws p q))).map (fun i=>gD (grp (qK ws p q) i))=(AL (qK ws p q)).map gD:=by
  unfold AL
  rw [List.map_map]
  rfl
 rw [List.nil_append,e2,<-Wn] at e
 have hz:0<=sizeLine:=Nat.zero_le _
 simp [Kw,qw,qv,qB,je,h,yf,e,ALd]
theorem zD {k:Nat}:∀ ds:List D,(∀ d∈ds,eqN k d d=some true)->wc (eqN k) ds ds=some true
 | [],_=>rfl
 | d::ds,h=>by
  have e:=h d (List.mem_cons_self ..)
  have ih:=zD ds fun d' hd=>h d' (List.mem_cons_of_mem _ hd)
  simp [wc,e,ih]
theorem Vd {k:Nat} {ds:List D} (h:∀ d∈ds,eqN k d d=some true):eqN (k+1) (.lst ds) (.lst ds)=some true:=by
 have e:=zD ds h
 simp [eqN,e]
theorem XC {k:Nat} {ds:List D} (h:∀ d∈ds,eqN k d d=some true):eqN (k+1) (.tup ds) (.tup ds)=some true:=by
 have e:=zD ds h
 simp [eqN,e]
theorem Ve (k:Nat) (x:Str):eqN k (.str x) (.str x)=some true:=by cases k <;> simp [eqN,eqS]
theorem qbR (k:Nat) (x:Int):eqN k (.int x) (.int x)=some true:=by cases k <;> simp [eqN,eqS]
theorem Vf {d:D} (h:eqN 8 d d=some true):neD d d=.ok (.bl false):=by simp [neD,h]
theorem qdF (ws:List Str):neD (Wd ws) (Wd ws)=.ok (.bl false):=Vf (XC fun d hd=>by
 obtain ⟨x,_,rfl⟩:=List.mem_map.mp hd
 exact Ve _ _)
theorem qeY (p q:Int):neD (Ld p q) (Ld p q)=.ok (.bl false):=by simp [neD,eqN,wc,eqS]
theorem GB (l:List (Str×Str)):neD (.lst (jh l)) (.lst (jh l))=.ok (.bl false):=Vf (Vd fun d hd=>by
 obtain ⟨x,_,rfl⟩:=List.mem_map.mp hd
 exact XC fun d hd=>by
  rcases List.mem_cons.mp hd with rfl | hd
  ·exact Ve _ _
  ·rcases List.mem_cons.mp hd with rfl | hd
   ·exact Ve _ _
   ·cases hd)
theorem qeZ (l:List (Str×Str)):neD (ALd l) (ALd l)=.ok (.bl false):=Vf (Vd fun d hd=>by
 obtain ⟨x,_,rfl⟩:=List.mem_map.mp hd
 exact Vd fun d hd=>by
  obtain ⟨x,_,rfl⟩:=List.mem_map.mp hd
  exact qbR _ _)
abbrev qe0 (M N:List D->Out (D×List D)):=(dOr (qN (d2 neD (qe 3) (d1 vW (qe 4)))) (dOr (qN (d2 neD (qt [.vl] M (qd (qe 3) qC)) (qe 6))) (qN (d2 neD (qt [.vl] N (qd (qe 2) qC)) (qe 7)))))
theorem XD {M N:List D->Out (D×List D)} {w o b l:D} {s t r n y z:Option D} {g k:Sl->Out (Fl×Sl)} {ds:List D} (h0:neD b (.tup ds)=.ok (.bl false)) (h1:M [b]=.ok (w,[.non])) (h2:neD w w=.ok (.bl false)) (h3:N [o]=.ok (l,[.non])) (h4:neD l l=.ok (.bl false)) :
  QB [.val] (qR (sIf (qe0 M N) k ji) g [s,t,some o,some b,some (.lst ds),y,some w,some l,r,n,z])
   = QB [.val] (g [s,t,some o,some b,some (.lst ds),y,some w,some l,r,n,z]):=
 qD (by simp [qB,je,vW,h0,h1,h2,h3,h4])
theorem Ug {p q:Int} (hl:zR p q) {s t b e y w r n z:Option D} {g k:Sl->Out (Fl×Sl)} :
  QB [.val] (qR (sIf (dOr (qN (d2 neD (d2 kz (d2 ixD (qe 7) (dC (.int 0))) (d2 ixD (qe 2) (dC (.int 0)))) (d1 WG (dC (.int 1))))) (qN (d2 neD (d2 kz (d2 ixD (qe 7) (dC (.int 1))) (d2 ixD (qe 2) (dC (.int 1)))) (d1 WG (dC (.int 1)))))) k ji) g [s,t,some (Ld (-1 - p) (-1 - q)),b,e,y,w,some (Ld p q),r,n,z])
   = QB [.val] (g [s,t,some (Ld (-1 - p) (-1 - q)),b,e,y,w,some (Ld p q),r,n,z]):=by
 have e1:p+(-1 - p)=-1:=by omega
 have e2:q+(-1 - q)=-1:=by omega
 exact qD (by simp [ixD,at0,at1,kz,wT,WG,neD,eqN,eqS,e1,e2])
theorem XE {P A:List D->Out (D×List D)} {w o b l c a:D} {s t r n y z e:Option D} {g k:Sl->Out (Fl×Sl)} (h1:P [b,o]=.ok (c,[.non,.non])) (h2:P [w,l]=.ok (c,[.non,.non])) (h3:neD c c=.ok (.bl false)) (h4:A [b,o]=.ok (a,[.non,.non])) (h5:A [w,l]=.ok (a,[.non,.non])) (h6:neD a a=.ok (.bl false)) :
  QB [.val] (qR (sIf (dOr (qN (d2 neD (qt [.vl,.vl] P (qd (qe 3) (qd (qe 2) qC))) (qt [.vl,.vl] P (qd (qe 6) (qd (qe 7) qC))))) (qN (d2 neD (qt [.vl,.vl] A (qd (qe 3) (qd (qe 2) qC))) (qt [.vl,.vl] A (qd (qe 6) (qd (qe 7) qC)))))) k ji) g [s,t,some o,some b,e,y,some w,some l,r,n,z])
   = QB [.val] (g [s,t,some o,some b,e,y,some w,some l,r,n,z]):=
 qD (by simp [qB,je,h1,h2,h3,h4,h5,h6])
theorem GC {H:List D->Out (D×List D)} {w o b l r n c:D} {s t y z e:Option D} (h1:H [b,o,r,n]=.ok (c,[.non,.non,.non,.non])) (h2:H [w,l,r,n]=.ok (c,[.non,.non,.non,.non])) (h3:eqD c c=.ok (.bl true)) :
  QB [.val] (jE (d2 eqD (qt [.vl,.vl,.vl,.vl] H (qd (qe 3) (qd (qe 2) (qd (qe 8) (qd (qe 9) qC))))) (qt [.vl,.vl,.vl,.vl] H (qd (qe 6) (qd (qe 7) (qd (qe 8) (qd (qe 9) qC)))))) [s,t,some o,some b,e,y,some w,some l,some r,some n,z])=.ok (.bl true,[.non]):=by
 simp [qB,je,h1,h2,h3,qv]
theorem qdG (ns0:List Int):Gn [scr ns0]=.ok (.bl true,[.non]):=by
 refine runD_ap.trans ?_
 obtain ⟨ws,p,q,r,ns,t1,T,ht1,g1⟩:=Vc ns0 [] (by simp)
 have h9:r<=99:=by have:=T.r9; omega
 have hr:=T.r0
 have hl:=T.l
 have hl2:=qbO T.l
 have hw:=T.w
 have hw2:=qdD T.w
 have hsn:=qbP hw hl
 obtain ⟨W,S⟩:=qeV T.w p q
 have S2:Sn (qK (rvs ws) (-1 - p) (-1 - q)) W:=by rw [hsn]; exact S
 have hlen:(rvs ws).length=ws.length:=by unfold rvs; rw [List.length_map]
 have hn2:wA (rvs ws).length r ns:=by rw [hlen]; exact T.n
 have k1:=zB hw2 hl2 hr h9 hn2 S2
 have k2:=zB hw hl hr h9 T.n S
 rw [hsn] at k1
 have p1:=xu hw2 hl2
 have p2:=xu hw hl
 rw [hsn] at p1
 have a1:=Wo hw2 hl2
 have a2:=Wo hw hl
 rw [hsn] at a1
 have m1:=zC hw
 have m2:=zC hw2
 rw [qbN] at m2
 have u1:=JH hl
 have u2:=JH hl2
 rw [show -1 - (-1 - p)=p by omega,show -1 - (-1 - q)=q by omega] at u2
 have h6:=hw.2.1
 obtain ⟨x',i',dl⟩:=Wm (some (scr ns0)) (some (.lst t1)) (some (Ld (-1 - p) (-1 - q))) (some (Wd (rvs ws))) (some (Wd ws)) (some (Ld p q)) (some (.int r)) (some (nD ns)) ws [] none none hw.2.2.2 (by simp; omega)
 rw [List.nil_append] at dl
 unfold qbu
 rw [show qw Gm [scr ns0]=[some (scr ns0),none,none,none,none,none,none,none,none,none,none] from rfl]
 refine (qD (ρ1:=[some (scr ns0),some (.lst []),none,none,none,none,none,none,none,none,none]) (by simp)).trans ?_
 refine (qD (ρ1:=[some (scr ns0),some (.lst t1),none,none,none,none,some (Wd ws),some (Ld p q),some (.int r),some (nD ns),none]) (by simp [qB,je,g1,ju,qx,jt])).trans ?_
 refine (qD (ρ1:=[some (scr ns0),some (.lst t1),some (Ld (-1 - p) (-1 - q)),none,none,none,some (Wd ws),some (Ld p q),some (.int r),some (nD ns),none]) (by simp [qB,je,u1])).trans ?_
 refine (qD (ρ1:=[some (scr ns0),some (.lst t1),some (Ld (-1 - p) (-1 - q)),some (Wd (rvs ws)),none,none,some (Wd ws),some (Ld p q),some (.int r),some (nD ns),none]) (by simp [qB,je,m1])).trans ?_
 refine (qD (ρ1:=[some (scr ns0),some (.lst t1),some (Ld (-1 - p) (-1 - q)),some (Wd (rvs ws)),some (.lst []),none,some (Wd ws),some (Ld p q),some (.int r),some (nD ns),none]) (by simp)).trans ?_
 refine (qD (ρ1:=[some (scr ns0),some (.lst t1),some (Ld (-1 - p) (-1 - q)),some (Wd (rvs ws)),some (.lst ((rvs ws).map D.str)),x',some (Wd ws),some (Ld p q),some (.int r),some (nD ns),i']) (by
  rw [vF,qba,Kl]
  exact dl)).trans ?_
 refine (XD (M:=vx) (N:=uK) (qdF (rvs ws)) m2 (qdF ws) u2 (qeY p q)).trans ?_
 refine (Ug hl).trans ?_
 refine (XE p1 p2 (GB _) a1 a2 (qeZ _)).trans ?_
 exact GC k1 k2 (by simp [eqD,eqN,eqS])
end Kx
namespace Kx
open PySem PySem.Spec PyProof.Rows L2 L2.D2
theorem qy {K:Frag} {h:Heap} {mg:Str->Option Value} (X:K.In h) (G:h.Ns mainGlobals mg) {x:Str} {st:Stmt} {ps:List Str} {f:Addr} {oc:Value} {od an:Option Addr} {osl:Array (Option Value)} {kV doc pm cdv ct:Value}
  (hb:∀ (kV doc pm:Value) (an:Option Addr) (cdv ct:Value) (us:List Value),us.length=ps.length->bindArgs (PySem.W.fnOf x x (ua st) (vD st) (qf st) .none kV doc pm an cdv ct) ⟨us,[]⟩=pure (ps.zip us))
  (a:nsIn K mainGlobals x=some (some (.ref f))) (l:K.lookup f=some ⟨oc,od,.func (PySem.W.fnOf x x (ua st) (vD st) (qf st) .none kV doc pm an cdv ct),osl⟩) (c:codeIn K cdv x=true) (k:keepIn K (.ref f)=true):qV K mg x st ps:=
 ⟨f,_,Uz l c k,mg_of X G a,(Uz l c k).binds hb⟩
theorem qfU {us:List Value} {P:List Value->Prop} (hl:us.length=0) (h:P []):P us:=List.length_eq_zero_iff.mp hl ▸ h
theorem qd1 {us:List Value} {n:Nat} (hl:us.length=n+1):∃ a l,us=a::l/\l.length=n:=by
 cases us with
 | nil=>cases hl
 | cons a l=>exact ⟨a,l,rfl,Nat.succ.inj hl⟩
theorem Wp {us:List Value} {P:List Value->Prop} (hl:us.length=1) (h:∀ a,P [a]):P us:=by
 obtain ⟨a,l,rfl,e⟩:=qd1 hl
 exact qfU (P:=fun l=>P (a::l)) e (h a)
theorem Uh {us:List Value} {P:List Value->Prop} (hl:us.length=2) (h:∀ a b,P [a,b]):P us:=by
 obtain ⟨a,l,rfl,e⟩:=qd1 hl
 exact Wp (P:=fun l=>P (a::l)) e (h a)
theorem Wq {us:List Value} {P:List Value->Prop} (hl:us.length=3) (h:∀ a b c,P [a,b,c]):P us:=by
 obtain ⟨a,l,rfl,e⟩:=qd1 hl
 exact Uh (P:=fun l=>P (a::l)) e (h a)
theorem qbZ {us:List Value} {P:List Value->Prop} (hl:us.length=4) (h:∀ a b c d,P [a,b,c,d]):P us:=by
 obtain ⟨a,l,rfl,e⟩:=qd1 hl
 exact Wq (P:=fun l=>P (a::l)) e (h a)
theorem XF {l:List Str} {f:Str->Addr} (nd:(l.map f).Nodup) {x y:Str} (hx:x∈l) (hy:y∈l) (e:f x=f y):x=y:=by
 obtain ⟨i,hi,rfl⟩:=List.mem_iff_getElem.mp hx
 obtain ⟨j,hj,rfl⟩:=List.mem_iff_getElem.mp hy
 have q:=(List.getElem_inj (h₀:=by simpa using hi) (h₁:=by simpa using hj) nd).mp (show (l.map f)[i]'(by simpa using hi)=(l.map f)[j]'(by simpa using hj) by simpa using e)
 subst q
 rfl
noncomputable def caT (T:List (Str×Addr)) (x:Str):Addr:=(T.lookup x).getD 0
noncomputable def GD (K:Frag) (Cs:List Addr) (W:Addr):Bool:=decide Cs.Nodup&&Cs.all fun c=>xcB K c&&decide (PySem.W.exmOne K (.ref c) (.ref W)=some true)&&decide (PySem.W.kitOne K (.ref c) (.type "ValueError")=some true)&&PySem.W.excIn K c bmV "ValueError.__new__"&&Cs.all fun d=>decide (PySem.W.kitOne K (.ref c) (.ref d)=some (decide (c=d)))
theorem GE {K:Frag} {Cs:List Addr} {W:Addr} (h:GD K Cs W=true):Cs.Nodup/\∀ c∈Cs,xcB K c=true/\PySem.W.exmOne K (.ref c) (.ref W)=some true/\PySem.W.kitOne K (.ref c) (.type "ValueError")=some true/\PySem.W.excIn K c bmV "ValueError.__new__"=true/\∀ d∈Cs,PySem.W.kitOne K (.ref c) (.ref d)=some (decide (c=d)):=by
 unfold GD at h
 rw [Bool.and_eq_true,List.all_eq_true] at h
 refine ⟨of_decide_eq_true h.1,fun c hc=>?_⟩
 have q:=h.2 c hc
 simp only [Bool.and_eq_true,decide_eq_true_eq,List.all_eq_true] at q
 exact ⟨q.1.1.1.1,q.1.1.1.2,q.1.1.2,q.1.2,q.2⟩
def qfu (ca:Str->Addr):Prop:=∀ x∈CS,∀ y∈CS,ca x=ca y->x=y
theorem qdH {c:Str} (h:c∈CS):c = "NoWords"\/c = "NoLook"\/c = "NoNumbers"\/c = "NoRoom":=by simpa [CS] using h
theorem qe1 {K:Frag} {h:Heap} {mg:Str->Option Value} (X:K.In h) (G:h.Ns mainGlobals mg) {CW C0 C1 C2 C3:Addr}  {t_LEAST_PLACE t_MOST_LETTERS t_MOST_PLACE t_MOST_ROOM t_MOST_WORDS:Tok}
    (aW:nsIn K mainGlobals "WordError"=some (some (.ref CW)))
    (a0:nsIn K mainGlobals "NoWords"=some (some (.ref C0)))
    (a1:nsIn K mainGlobals "NoLook"=some (some (.ref C1)))
    (a2:nsIn K mainGlobals "NoNumbers"=some (some (.ref C2)))
    (a3:nsIn K mainGlobals "NoRoom"=some (some (.ref C3)))
    (z_all:nsIn K mainGlobals "all"=some none)
    (z_bool:nsIn K mainGlobals "bool"=some none)
    (z_dict:nsIn K mainGlobals "dict"=some none)
    (z_enumerate:nsIn K mainGlobals "enumerate"=some none)
    (z_int:nsIn K mainGlobals "int"=some none)
    (z_isinstance:nsIn K mainGlobals "isinstance"=some none)
    (z_len:nsIn K mainGlobals "len"=some none)
    (z_list:nsIn K mainGlobals "list"=some none)
    (z_max:nsIn K mainGlobals "max"=some none)
    (z_min:nsIn K mainGlobals "min"=some none)
    (z_range:nsIn K mainGlobals "range"=some none)
    (z_reversed:nsIn K mainGlobals "reversed"=some none)
    (z_set:nsIn K mainGlobals "set"=some none)
    (z_sorted:nsIn K mainGlobals "sorted"=some none)
    (z_str:nsIn K mainGlobals "str"=some none)
    (z_tuple:nsIn K mainGlobals "tuple"=some none)
    (c_LEAST_PLACE:nsIn K mainGlobals "LEAST_PLACE"=some (some (.int (-3) t_LEAST_PLACE)))
    (c_MOST_LETTERS:nsIn K mainGlobals "MOST_LETTERS"=some (some (.int 6 t_MOST_LETTERS)))
    (c_MOST_PLACE:nsIn K mainGlobals "MOST_PLACE"=some (some (.int 2 t_MOST_PLACE)))
    (c_MOST_ROOM:nsIn K mainGlobals "MOST_ROOM"=some (some (.int 99 t_MOST_ROOM)))
    (c_MOST_WORDS:nsIn K mainGlobals "MOST_WORDS"=some (some (.int 6 t_MOST_WORDS)))
    (ex:GD K [C0,C1,C2,C3] CW=true)
     :
    Zt K mg (fun x=>.ref (caT [("WordError",CW),("NoWords",C0),("NoLook",C1),("NoNumbers",C2),("NoRoom",C3)] x)) (caT [("WordError",CW),("NoWords",C0),("NoLook",C1),("NoNumbers",C2),("NoRoom",C3)])/\qfu (caT [("WordError",CW),("NoWords",C0),("NoLook",C1),("NoNumbers",C2),("NoRoom",C3)]):=by
  obtain ⟨nd,al⟩:=GE ex
  generalize hT:([("WordError",CW),("NoWords",C0),("NoLook",C1),("NoNumbers",C2),("NoRoom",C3)]:List (Str×Addr))=T
  have eW:caT T "WordError"=CW:=by subst hT; kernel_rfl
  have e0:caT T "NoWords"=C0:=by subst hT; kernel_rfl
  have e1:caT T "NoLook"=C1:=by subst hT; kernel_rfl
  have e2:caT T "NoNumbers"=C2:=by subst hT; kernel_rfl
  have e3:caT T "NoRoom"=C3:=by subst hT; kernel_rfl
  have hm:CS.map (caT T)=[C0,C1,C2,C3]:=by
    unfold CS
    simp only [List.map_cons,List.map_nil,e0,e1,e2,e3]
  have hin:∀ c∈CS,caT T c∈[C0,C1,C2,C3]:=fun c hc=>hm ▸ List.mem_map.mpr ⟨c,hc,rfl⟩
  refine ⟨⟨⟨fun c hc=>rfl,fun c hc=>?_,fun c hc=>(al _ (hin c hc)).1,fun c hc d hd=>(al _ (hin c hc)).2.2.2.2 _ (hin d hd),fun c hc=>(al _ (hin c hc)).2.2.1⟩,fun c hc=>?_,fun c hc=>(al _ (hin c hc)).2.2.2.1,fun x hx=>absurd hx (by simp [FS]),mg_none_of X G z_all,mg_none_of X G z_bool,mg_none_of X G z_dict,mg_none_of X G z_enumerate,mg_none_of X G z_int,mg_none_of X G z_isinstance,mg_none_of X G z_len,mg_none_of X G z_list,mg_none_of X G z_max,mg_none_of X G z_min,mg_none_of X G z_range,mg_none_of X G z_reversed,mg_none_of X G z_set,mg_none_of X G z_sorted,mg_none_of X G z_str,mg_none_of X G z_tuple,⟨_,mg_of X G c_LEAST_PLACE⟩,⟨_,mg_of X G c_MOST_LETTERS⟩,⟨_,mg_of X G c_MOST_PLACE⟩,⟨_,mg_of X G c_MOST_ROOM⟩,⟨_,mg_of X G c_MOST_WORDS⟩⟩,fun x hx y hy e=>?_⟩
  · show PySem.W.exmOne K (.ref (caT T c)) (.ref (caT T "WordError"))=some true
    rw [eW]
    exact (al _ (hin c hc)).2.1
  · rcases qdH hc with rfl | rfl | rfl | rfl
    · rw [e0]; exact mg_of X G a0
    · rw [e1]; exact mg_of X G a1
    · rw [e2]; exact mg_of X G a2
    · rw [e3]; exact mg_of X G a3
  ·
    rw [<-hm] at nd
    exact XF nd hx hy e
structure Tx (K:Frag) (mg:Str->Option Value) (ca:Str->Addr):Prop where
 x_is_letter:qV K mg "is_letter" vH ["thing"]
 x_is_word:qV K mg "is_word" vt ["thing"]
 x_is_words:qV K mg "is_words" kt ["thing"]
 x_check_words:qV K mg "check_words" kj ["thing"]
 x_is_between:qV K mg "is_between" kP ["thing", "least", "most"]
 x_is_look:qV K mg "is_look" vw ["thing"]
 x_check_look:qV K mg "check_look" kR ["thing"]
 x_letter_at:qV K mg "letter_at" vL ["word", "place"]
 x_pairs:qV K mg "pairs" yj ["words", "look"]
 x_are_alike:qV K mg "are_alike" vO ["one", "two"]
 x_alike:qV K mg "alike" yk ["words", "look"]
 x_mirrored:qV K mg "mirrored" ku ["words"]
 x_turned:qV K mg "turned" xi ["look"]
 x_check_room:qV K mg "check_room" kT ["thing"]
 x_is_numbers:qV K mg "is_numbers" jC ["thing", "count", "room"]
 x_check_numbers:qV K mg "check_numbers" jK ["thing", "count", "room"]
 x_told_pairs:qV K mg "told_pairs" kU ["words", "look", "room", "numbers"]
 x_is_odd:qV K mg "is_odd" xj ["walk"]
 x_comes_to:qV K mg "comes_to" wH ["walk", "numbers", "start"]
 x_bars:qV K mg "bars" VT ["walk", "room", "numbers"]
 x_letters_of:qV K mg "letters_of" jf ["seen"]
 x_other_letter:qV K mg "other_letter" jW ["pair", "letter"]
 x_spread:qV K mg "spread" xm ["seen", "root", "ways"]
 x_ways_of:qV K mg "ways_of" uQ ["seen"]
 x_circles_of:qV K mg "circles_of" kZ ["seen", "ways"]
 x_first_odd:qV K mg "first_odd" vS ["circles"]
 x_bar_of:qV K mg "bar_of" wJ ["seen", "room", "numbers"]
 x_bar:qV K mg "bar" ZY ["words", "look", "room", "numbers"]
 x_half:qV K mg "half" VW ["total", "room"]
 x_root_worths:qV K mg "root_worths" kn ["walk", "room", "numbers"]
 x_roots_of:qV K mg "roots_of" jD ["seen", "room", "numbers"]
 x_how_many:qV K mg "how_many" wL ["words", "look", "room", "numbers"]
 x_Lcell_at:qV K mg "_law_cell_at" wO ["_law_script", "_law_k"]
 x_Lmixed:qV K mg "_law_mixed" xp ["_law_script", "_law_k", "_law_many"]
 x_Ldraw:qV K mg "_law_draw" Qj ["_law_script", "_law_town", "_law_many"]
 x_Lpick:qV K mg "_law_pick" Qk ["_law_script", "_law_town", "_law_some"]
 x_Lword:qV K mg "_law_word" yu ["_law_script", "_law_town", "_law_letters_here", "_law_most"]
 x_Lwords:qV K mg "_law_words" xq ["_law_script", "_law_town", "_law_most"]
 x_Llook:qV K mg "_law_look" Qp ["_law_script", "_law_town"]
 x_Lat:qV K mg "_law_at" Ua ["_law_word_here", "_law_place"]
 x_Lseen:qV K mg "_law_seen" yv ["_law_words_here", "_law_look_here"]
 x_Lletters:qV K mg "_law_letters" wQ ["_law_words_here", "_law_look_here"]
 x_Lby:qV K mg "_law_by" Ub ["_law_words_here", "_law_look_here", "_law_room", "_law_book"]
 x_Ltold:qV K mg "_law_told" yx ["_law_script", "_law_town", "_law_most", "_law_wide"]
theorem qdI {P:Program} {w:World} {K:Frag} {mg:Str->Option Value} {base:Heap} {cv:Str->Value} {ca:Str->Addr} {f:Addr} {fd:FuncData} (Z:Zt K mg cv ca) (T:Tx K mg ca) (F:Fun K "law" "law" KQ f fd):FnOk P w K mg base (CXk P w) 9 f fd ["_law_script"] (spD K cv [.val] .sh Gn):=by
 have o_is_letter:=Jr (P:=P) (w:=w) (base:=base) Z T.x_is_letter 
 have o_is_word:=WW (P:=P) (w:=w) (base:=base) Z T.x_is_word o_is_letter
 have o_is_words:=Ks (P:=P) (w:=w) (base:=base) Z T.x_is_words o_is_word
 have o_check_words:=zM (P:=P) (w:=w) (base:=base) Z T.x_check_words o_is_words
 have o_is_between:=gP (P:=P) (w:=w) (base:=base) Z T.x_is_between 
 have o_is_look:=WY (P:=P) (w:=w) (base:=base) Z T.x_is_look o_is_between
 have o_check_look:=gR (P:=P) (w:=w) (base:=base) Z T.x_check_look o_is_look
 have o_letter_at:=Js (P:=P) (w:=w) (base:=base) Z T.x_letter_at 
 have o_pairs:=ZW (P:=P) (w:=w) (base:=base) Z T.x_pairs o_check_words o_check_look o_letter_at
 have o_are_alike:=Ju (P:=P) (w:=w) (base:=base) Z T.x_are_alike 
 have o_alike:=ZX (P:=P) (w:=w) (base:=base) Z T.x_alike o_pairs o_are_alike
 have o_mirrored:=Kz (P:=P) (w:=w) (base:=base) Z T.x_mirrored o_check_words
 have o_turned:=YN (P:=P) (w:=w) (base:=base) Z T.x_turned o_check_look
 have o_check_room:=gW (P:=P) (w:=w) (base:=base) Z T.x_check_room o_is_between
 have o_is_numbers:=gY (P:=P) (w:=w) (base:=base) Z T.x_is_numbers o_is_between
 have o_check_numbers:=yX (P:=P) (w:=w) (base:=base) Z T.x_check_numbers o_is_numbers
 have o_told_pairs:=gZ (P:=P) (w:=w) (base:=base) Z T.x_told_pairs o_check_room o_check_numbers o_pairs
 have o_is_odd:=YQ (P:=P) (w:=w) (base:=base) Z T.x_is_odd 
 have o_comes_to:=KA (P:=P) (w:=w) (base:=base) Z T.x_comes_to 
 have o_bars:=qbn (P:=P) (w:=w) (base:=base) Z T.x_bars o_comes_to o_is_odd
 have o_letters_of:=Qb (P:=P) (w:=w) (base:=base) Z T.x_letters_of 
 have o_other_letter:=zi (P:=P) (w:=w) (base:=base) Z T.x_other_letter 
 have o_spread:=YS (P:=P) (w:=w) (base:=base) Z T.x_spread o_other_letter
 have o_ways_of:=WZ (P:=P) (w:=w) (base:=base) Z T.x_ways_of o_letters_of o_spread
 have o_circles_of:=Qe (P:=P) (w:=w) (base:=base) Z T.x_circles_of 
 have o_first_odd:=Jx (P:=P) (w:=w) (base:=base) Z T.x_first_odd o_is_odd
 have o_bar_of:=YT (P:=P) (w:=w) (base:=base) Z T.x_bar_of o_is_odd o_bars o_ways_of o_circles_of o_first_odd
 have o_bar:=qdd (P:=P) (w:=w) (base:=base) Z T.x_bar o_told_pairs o_bar_of
 have o_half:=qbq (P:=P) (w:=w) (base:=base) Z T.x_half 
 have o_root_worths:=zN (P:=P) (w:=w) (base:=base) Z T.x_root_worths o_comes_to o_half
 have o_roots_of:=KB (P:=P) (w:=w) (base:=base) Z T.x_roots_of o_ways_of o_circles_of o_first_odd o_root_worths
 have o_how_many:=KC (P:=P) (w:=w) (base:=base) Z T.x_how_many o_pairs o_bar o_roots_of
 have o_Lcell_at:=KF (P:=P) (w:=w) (base:=base) Z T.x_Lcell_at 
 have o_Lmixed:=YX (P:=P) (w:=w) (base:=base) Z T.x_Lmixed o_Lcell_at
 have o_Ldraw:=Ga (P:=P) (w:=w) (base:=base) Z T.x_Ldraw o_Lmixed
 have o_Lpick:=Gc (P:=P) (w:=w) (base:=base) Z T.x_Lpick o_Ldraw
 have o_Lword:=Ge (P:=P) (w:=w) (base:=base) Z T.x_Lword o_Ldraw o_Lpick
 have o_Lwords:=Xa (P:=P) (w:=w) (base:=base) Z T.x_Lwords o_Ldraw o_Lpick o_Lword
 have o_Llook:=Gg (P:=P) (w:=w) (base:=base) Z T.x_Llook o_Ldraw
 have o_Lat:=qdf (P:=P) (w:=w) (base:=base) Z T.x_Lat 
 have o_Lseen:=Gi (P:=P) (w:=w) (base:=base) Z T.x_Lseen o_Lat
 have o_Lletters:=KN (P:=P) (w:=w) (base:=base) Z T.x_Lletters o_Lseen
 have o_Lby:=qdh (P:=P) (w:=w) (base:=base) Z T.x_Lby o_Lseen
 have o_Ltold:=Gk (P:=P) (w:=w) (base:=base) Z T.x_Ltold o_Ldraw o_Lwords o_Llook o_Lletters o_Lby
 exact qdi Z F o_pairs o_alike o_mirrored o_turned o_how_many o_Ltold
def GF (K:Frag):Sp:=fun vs H Q _=>∃ (a:Addr) (ns:List Int),vs=[.ref a]/\SqL K H a (ns.map V.int)/\∀ H',Q (.bl true) H'
theorem Wr {K:Frag} {F:Hp}:∀ ns:List Int,IsL K F (ns.map V.int) (ns.map D.int)
 | []=>.nil
 | n::ns=>.cons (.int n) (Wr ns)
theorem qe2 {K:Frag} {cv:Str->Value} {ca:Str->Addr} (h:qfu ca) (vs:List V) (H:Hp) (Q:VK) (E:XK) (q:GF K vs H Q E):spD K cv [.val] .sh Gn vs H Q E:=by
 obtain ⟨a,ns,rfl,hs,hq⟩:=q
 refine ⟨H,[scr ns],Same.refl _,⟨.lst hs (Wr ns),trivial⟩,List.nodup_nil,?_⟩
 rw [qdG ns]
 intro v F' H' a1 a2 a3 a4
 have a4:Is K F' v (.bl true):=a4
 cases a4
 exact hq H'
abbrev NsX (K:Frag) (x:Str) (f:Addr):Prop:=nsIn K mainGlobals x=some (some (.ref f))
abbrev LkX (K:Frag) (x:Str) (st:Stmt) (f:Addr) (oc:Value) (od an:Option Addr) (sl:Array (Option Value)) (kV dc pm cd ct:Value):Prop:=K.lookup f=some ⟨oc,od,.func (PySem.W.fnOf x x (ua st) (vD st) (qf st) .none kV dc pm an cd ct),sl⟩
theorem qdJ {l:PySem.W.OpenLaw} {w:World} {K:Frag} {h:Heap} {mg:Str->Option Value} {fa:Addr} (X:K.In h) (G:h.Ns mainGlobals mg) (hfa:mg "law"=some (.ref fa)) {CW C0 C1 C2 C3:Addr} {t_LEAST_PLACE t_MOST_LETTERS t_MOST_PLACE t_MOST_ROOM t_MOST_WORDS:Tok} {f0:Addr} {v0:Value} {o0 p0:Option Addr} {s0:Array (Option Value)} {g0 h0 i0 j0 m0:Value} {f1:Addr} {v1:Value} {o1 p1:Option Addr} {s1:Array (Option Value)} {g1 h1 i1 j1 m1:Value} {f2:Addr} {v2:Value} {o2 p2:Option Addr} {s2:Array (Option Value)} {g2 h2 i2 j2 m2:Value} {f3:Addr} {v3:Value} {o3 p3:Option Addr} {s3:Array (Option Value)} {g3 h3 i3 j3 m3:Value} {f4:Addr} {v4:Value} {o4 p4:Option Addr} {s4:Array (Option Value)} {g4 h4 i4 j4 m4:Value} {f5:Addr} {v5:Value} {o5 p5:Option Addr} {s5:Array (Option Value)} {g5 h5 i5 j5 m5:Value} {f6:Addr} {v6:Value} {o6 p6:Option Addr} {s6:Array (Option Value)} {g6 h6 i6 j6 m6:Value} {f7:Addr} {v7:Value} {o7 p7:Option Addr} {s7:Array (Option Value)} {g7 h7 i7 j7 m7:Value} {f8:Addr} {v8:Value} {o8 p8:Option Addr} {s8:Array (Option Value)} {g8 h8 i8 j8 m8:Value} {f9:Addr} {v9:Value} {o9 p9:Option Addr} {s9:Array (Option Value)} {g9 h9 i9 j9 m9:Value} {f10:Addr} {v10:Value} {o10 p10:Option Addr} {s10:Array (Option Value)} {g10 h10 i10 j10 m10:Value} {f11:Addr} {v11:Value} {o11 p11:Option Addr} {s11:Array (Option Value)} {g11 h11 i11 j11 m11:Value} {f12:Addr} {v12:Value} {o12 p12:Option Addr} {s12:Array (Option Value)} {g12 h12 i12 j12 m12:Value} {f13:Addr} {v13:Value} {o13 p13:Option Addr} {s13:Array (Option Value)} {g13 h13 i13 j13 m13:Value} {f14:Addr} {v14:Value} {o14 p14:Option Addr} {s14:Array (Option Value)} {g14 h14 i14 j14 m14:Value} {f15:Addr} {v15:Value} {o15 p15:Option Addr} {s15:Array (Option Value)} {g15 h15 i15 j15 m15:Value} {f16:Addr} {v16:Value} {o16 p16:Option Addr} {s16:Array (Option Value)} {g16 h16 i16 j16 m16:Value} {f17:Addr} {v17:Value} {o17 p17:Option Addr} {s17:Array (Option Value)} {g17 h17 i17 j17 m17:Value} {f18:Addr} {v18:Value} {o18 p18:Option Addr} {s18:Array (Option Value)} {g18 h18 i18 j18 m18:Value} {f19:Addr} {v19:Value} {o19 p19:Option Addr} {s19:Array (Option Value)} {g19 h19 i19 j19 m19:Value} {f20:Addr} {v20:Value} {o20 p20:Option Addr} {s20:Array (Option Value)} {g20 h20 i20 j20 m20:Value} {f21:Addr} {v21:Value} {o21 p21:Option Addr} {s21:Array (Option Value)} {g21 h21 i21 j21 m21:Value} {f22:Addr} {v22:Value} {o22 p22:Option Addr} {s22:Array (Option Value)} {g22 h22 i22 j22 m22:Value} {f23:Addr} {v23:Value} {o23 p23:Option Addr} {s23:Array (Option Value)} {g23 h23 i23 j23 m23:Value} {f24:Addr} {v24:Value} {o24 p24:Option Addr} {s24:Array (Option Value)} {g24 h24 i24 j24 m24:Value} {f25:Addr} {v25:Value} {o25 p25:Option Addr} {s25:Array (Option Value)} {g25 h25 i25 j25 m25:Value} {f26:Addr} {v26:Value} {o26 p26:Option Addr} {s26:Array (Option Value)} {g26 h26 i26 j26 m26:Value} {f27:Addr} {v27:Value} {o27 p27:Option Addr} {s27:Array (Option Value)} {g27 h27 i27 j27 m27:Value} {f28:Addr} {v28:Value} {o28 p28:Option Addr} {s28:Array (Option Value)} {g28 h28 i28 j28 m28:Value} {f29:Addr} {v29:Value} {o29 p29:Option Addr} {s29:Array (Option Value)} {g29 h29 i29 j29 m29:Value} {f30:Addr} {v30:Value} {o30 p30:Option Addr} {s30:Array (Option Value)} {g30 h30 i30 j30 m30:Value} {f31:Addr} {v31:Value} {o31 p31:Option Addr} {s31:Array (Option Value)} {g31 h31 i31 j31 m31:Value} {f32:Addr} {v32:Value} {o32 p32:Option Addr} {s32:Array (Option Value)} {g32 h32 i32 j32 m32:Value} {f33:Addr} {v33:Value} {o33 p33:Option Addr} {s33:Array (Option Value)} {g33 h33 i33 j33 m33:Value} {f34:Addr} {v34:Value} {o34 p34:Option Addr} {s34:Array (Option Value)} {g34 h34 i34 j34 m34:Value} {f35:Addr} {v35:Value} {o35 p35:Option Addr} {s35:Array (Option Value)} {g35 h35 i35 j35 m35:Value} {f36:Addr} {v36:Value} {o36 p36:Option Addr} {s36:Array (Option Value)} {g36 h36 i36 j36 m36:Value} {f37:Addr} {v37:Value} {o37 p37:Option Addr} {s37:Array (Option Value)} {g37 h37 i37 j37 m37:Value} {f38:Addr} {v38:Value} {o38 p38:Option Addr} {s38:Array (Option Value)} {g38 h38 i38 j38 m38:Value} {f39:Addr} {v39:Value} {o39 p39:Option Addr} {s39:Array (Option Value)} {g39 h39 i39 j39 m39:Value} {f40:Addr} {v40:Value} {o40 p40:Option Addr} {s40:Array (Option Value)} {g40 h40 i40 j40 m40:Value} {f41:Addr} {v41:Value} {o41 p41:Option Addr} {s41:Array (Option Value)} {g41 h41 i41 j41 m41:Value} {f42:Addr} {v42:Value} {o42 p42:Option Addr} {s42:Array (Option Value)} {g42 h42 i42 j42 m42:Value} {f43:Addr} {v43:Value} {o43 p43:Option Addr} {s43:Array (Option Value)} {g43 h43 i43 j43 m43:Value} {f44:Addr} {v44:Value} {o44 p44:Option Addr} {s44:Array (Option Value)} {g44 h44 i44 j44 m44:Value}
  (aW:nsIn K mainGlobals "WordError"=some (some (.ref CW)))
  (a0:nsIn K mainGlobals "NoWords"=some (some (.ref C0)))
  (a1:nsIn K mainGlobals "NoLook"=some (some (.ref C1)))
  (a2:nsIn K mainGlobals "NoNumbers"=some (some (.ref C2)))
  (a3:nsIn K mainGlobals "NoRoom"=some (some (.ref C3)))
  (z_all:nsIn K mainGlobals "all"=some none)
  (z_bool:nsIn K mainGlobals "bool"=some none)
  (z_dict:nsIn K mainGlobals "dict"=some none)
  (z_enumerate:nsIn K mainGlobals "enumerate"=some none)
  (z_int:nsIn K mainGlobals "int"=some none)
  (z_isinstance:nsIn K mainGlobals "isinstance"=some none)
  (z_len:nsIn K mainGlobals "len"=some none)
  (z_list:nsIn K mainGlobals "list"=some none)
  (z_max:nsIn K mainGlobals "max"=some none)
  (z_min:nsIn K mainGlobals "min"=some none)
  (z_range:nsIn K mainGlobals "range"=some none)
  (z_reversed:nsIn K mainGlobals "reversed"=some none)
  (z_set:nsIn K mainGlobals "set"=some none)
  (z_sorted:nsIn K mainGlobals "sorted"=some none)
  (z_str:nsIn K mainGlobals "str"=some none)
  (z_tuple:nsIn K mainGlobals "tuple"=some none)
  (c_LEAST_PLACE:nsIn K mainGlobals "LEAST_PLACE"=some (some (.int (-3) t_LEAST_PLACE)))
  (c_MOST_LETTERS:nsIn K mainGlobals "MOST_LETTERS"=some (some (.int 6 t_MOST_LETTERS)))
  (c_MOST_PLACE:nsIn K mainGlobals "MOST_PLACE"=some (some (.int 2 t_MOST_PLACE)))
  (c_MOST_ROOM:nsIn K mainGlobals "MOST_ROOM"=some (some (.int 99 t_MOST_ROOM)))
  (c_MOST_WORDS:nsIn K mainGlobals "MOST_WORDS"=some (some (.int 6 t_MOST_WORDS)))
  (ex:GD K [C0,C1,C2,C3] CW=true)
  (b_0:NsX K "is_letter" f0) (l_0:LkX K "is_letter" vH f0 v0 o0 p0 s0 g0 h0 i0 j0 m0) (d_0:codeIn K j0 "is_letter"=true) (k_0:keepIn K (.ref f0)=true)
  (b_1:NsX K "is_word" f1) (l_1:LkX K "is_word" vt f1 v1 o1 p1 s1 g1 h1 i1 j1 m1) (d_1:codeIn K j1 "is_word"=true) (k_1:keepIn K (.ref f1)=true)
  (b_2:NsX K "is_words" f2) (l_2:LkX K "is_words" kt f2 v2 o2 p2 s2 g2 h2 i2 j2 m2) (d_2:codeIn K j2 "is_words"=true) (k_2:keepIn K (.ref f2)=true)
  (b_3:NsX K "check_words" f3) (l_3:LkX K "check_words" kj f3 v3 o3 p3 s3 g3 h3 i3 j3 m3) (d_3:codeIn K j3 "check_words"=true) (k_3:keepIn K (.ref f3)=true)
  (b_4:NsX K "is_between" f4) (l_4:LkX K "is_between" kP f4 v4 o4 p4 s4 g4 h4 i4 j4 m4) (d_4:codeIn K j4 "is_between"=true) (k_4:keepIn K (.ref f4)=true)
  (b_5:NsX K "is_look" f5) (l_5:LkX K "is_look" vw f5 v5 o5 p5 s5 g5 h5 i5 j5 m5) (d_5:codeIn K j5 "is_look"=true) (k_5:keepIn K (.ref f5)=true)
  (b_6:NsX K "check_look" f6) (l_6:LkX K "check_look" kR f6 v6 o6 p6 s6 g6 h6 i6 j6 m6) (d_6:codeIn K j6 "check_look"=true) (k_6:keepIn K (.ref f6)=true)
  (b_7:NsX K "letter_at" f7) (l_7:LkX K "letter_at" vL f7 v7 o7 p7 s7 g7 h7 i7 j7 m7) (d_7:codeIn K j7 "letter_at"=true) (k_7:keepIn K (.ref f7)=true)
  (b_8:NsX K "pairs" f8) (l_8:LkX K "pairs" yj f8 v8 o8 p8 s8 g8 h8 i8 j8 m8) (d_8:codeIn K j8 "pairs"=true) (k_8:keepIn K (.ref f8)=true)
  (b_9:NsX K "are_alike" f9) (l_9:LkX K "are_alike" vO f9 v9 o9 p9 s9 g9 h9 i9 j9 m9) (d_9:codeIn K j9 "are_alike"=true) (k_9:keepIn K (.ref f9)=true)
  (b_10:NsX K "alike" f10) (l_10:LkX K "alike" yk f10 v10 o10 p10 s10 g10 h10 i10 j10 m10) (d_10:codeIn K j10 "alike"=true) (k_10:keepIn K (.ref f10)=true)
  (b_11:NsX K "mirrored" f11) (l_11:LkX K "mirrored" ku f11 v11 o11 p11 s11 g11 h11 i11 j11 m11) (d_11:codeIn K j11 "mirrored"=true) (k_11:keepIn K (.ref f11)=true)
  (b_12:NsX K "turned" f12) (l_12:LkX K "turned" xi f12 v12 o12 p12 s12 g12 h12 i12 j12 m12) (d_12:codeIn K j12 "turned"=true) (k_12:keepIn K (.ref f12)=true)
  (b_13:NsX K "check_room" f13) (l_13:LkX K "check_room" kT f13 v13 o13 p13 s13 g13 h13 i13 j13 m13) (d_13:codeIn K j13 "check_room"=true) (k_13:keepIn K (.ref f13)=true)
  (b_14:NsX K "is_numbers" f14) (l_14:LkX K "is_numbers" jC f14 v14 o14 p14 s14 g14 h14 i14 j14 m14) (d_14:codeIn K j14 "is_numbers"=true) (k_14:keepIn K (.ref f14)=true)
  (b_15:NsX K "check_numbers" f15) (l_15:LkX K "check_numbers" jK f15 v15 o15 p15 s15 g15 h15 i15 j15 m15) (d_15:codeIn K j15 "check_numbers"=true) (k_15:keepIn K (.ref f15)=true)
  (b_16:NsX K "told_pairs" f16) (l_16:LkX K "told_pairs" kU f16 v16 o16 p16 s16 g16 h16 i16 j16 m16) (d_16:codeIn K j16 "told_pairs"=true) (k_16:keepIn K (.ref f16)=true)
  (b_17:NsX K "is_odd" f17) (l_17:LkX K "is_odd" xj f17 v17 o17 p17 s17 g17 h17 i17 j17 m17) (d_17:codeIn K j17 "is_odd"=true) (k_17:keepIn K (.ref f17)=true)
  (b_18:NsX K "comes_to" f18) (l_18:LkX K "comes_to" wH f18 v18 o18 p18 s18 g18 h18 i18 j18 m18) (d_18:codeIn K j18 "comes_to"=true) (k_18:keepIn K (.ref f18)=true)
  (b_19:NsX K "bars" f19) (l_19:LkX K "bars" VT f19 v19 o19 p19 s19 g19 h19 i19 j19 m19) (d_19:codeIn K j19 "bars"=true) (k_19:keepIn K (.ref f19)=true)
  (b_20:NsX K "letters_of" f20) (l_20:LkX K "letters_of" jf f20 v20 o20 p20 s20 g20 h20 i20 j20 m20) (d_20:codeIn K j20 "letters_of"=true) (k_20:keepIn K (.ref f20)=true)
  (b_21:NsX K "other_letter" f21) (l_21:LkX K "other_letter" jW f21 v21 o21 p21 s21 g21 h21 i21 j21 m21) (d_21:codeIn K j21 "other_letter"=true) (k_21:keepIn K (.ref f21)=true)
  (b_22:NsX K "spread" f22) (l_22:LkX K "spread" xm f22 v22 o22 p22 s22 g22 h22 i22 j22 m22) (d_22:codeIn K j22 "spread"=true) (k_22:keepIn K (.ref f22)=true)
  (b_23:NsX K "ways_of" f23) (l_23:LkX K "ways_of" uQ f23 v23 o23 p23 s23 g23 h23 i23 j23 m23) (d_23:codeIn K j23 "ways_of"=true) (k_23:keepIn K (.ref f23)=true)
  (b_24:NsX K "circles_of" f24) (l_24:LkX K "circles_of" kZ f24 v24 o24 p24 s24 g24 h24 i24 j24 m24) (d_24:codeIn K j24 "circles_of"=true) (k_24:keepIn K (.ref f24)=true)
  (b_25:NsX K "first_odd" f25) (l_25:LkX K "first_odd" vS f25 v25 o25 p25 s25 g25 h25 i25 j25 m25) (d_25:codeIn K j25 "first_odd"=true) (k_25:keepIn K (.ref f25)=true)
  (b_26:NsX K "bar_of" f26) (l_26:LkX K "bar_of" wJ f26 v26 o26 p26 s26 g26 h26 i26 j26 m26) (d_26:codeIn K j26 "bar_of"=true) (k_26:keepIn K (.ref f26)=true)
  (b_27:NsX K "bar" f27) (l_27:LkX K "bar" ZY f27 v27 o27 p27 s27 g27 h27 i27 j27 m27) (d_27:codeIn K j27 "bar"=true) (k_27:keepIn K (.ref f27)=true)
  (b_28:NsX K "half" f28) (l_28:LkX K "half" VW f28 v28 o28 p28 s28 g28 h28 i28 j28 m28) (d_28:codeIn K j28 "half"=true) (k_28:keepIn K (.ref f28)=true)
  (b_29:NsX K "root_worths" f29) (l_29:LkX K "root_worths" kn f29 v29 o29 p29 s29 g29 h29 i29 j29 m29) (d_29:codeIn K j29 "root_worths"=true) (k_29:keepIn K (.ref f29)=true)
  (b_30:NsX K "roots_of" f30) (l_30:LkX K "roots_of" jD f30 v30 o30 p30 s30 g30 h30 i30 j30 m30) (d_30:codeIn K j30 "roots_of"=true) (k_30:keepIn K (.ref f30)=true)
  (b_31:NsX K "how_many" f31) (l_31:LkX K "how_many" wL f31 v31 o31 p31 s31 g31 h31 i31 j31 m31) (d_31:codeIn K j31 "how_many"=true) (k_31:keepIn K (.ref f31)=true)
  (b_32:NsX K "_law_cell_at" f32) (l_32:LkX K "_law_cell_at" wO f32 v32 o32 p32 s32 g32 h32 i32 j32 m32) (d_32:codeIn K j32 "_law_cell_at"=true) (k_32:keepIn K (.ref f32)=true)
  (b_33:NsX K "_law_mixed" f33) (l_33:LkX K "_law_mixed" xp f33 v33 o33 p33 s33 g33 h33 i33 j33 m33) (d_33:codeIn K j33 "_law_mixed"=true) (k_33:keepIn K (.ref f33)=true)
  (b_34:NsX K "_law_draw" f34) (l_34:LkX K "_law_draw" Qj f34 v34 o34 p34 s34 g34 h34 i34 j34 m34) (d_34:codeIn K j34 "_law_draw"=true) (k_34:keepIn K (.ref f34)=true)
  (b_35:NsX K "_law_pick" f35) (l_35:LkX K "_law_pick" Qk f35 v35 o35 p35 s35 g35 h35 i35 j35 m35) (d_35:codeIn K j35 "_law_pick"=true) (k_35:keepIn K (.ref f35)=true)
  (b_36:NsX K "_law_word" f36) (l_36:LkX K "_law_word" yu f36 v36 o36 p36 s36 g36 h36 i36 j36 m36) (d_36:codeIn K j36 "_law_word"=true) (k_36:keepIn K (.ref f36)=true)
  (b_37:NsX K "_law_words" f37) (l_37:LkX K "_law_words" xq f37 v37 o37 p37 s37 g37 h37 i37 j37 m37) (d_37:codeIn K j37 "_law_words"=true) (k_37:keepIn K (.ref f37)=true)
  (b_38:NsX K "_law_look" f38) (l_38:LkX K "_law_look" Qp f38 v38 o38 p38 s38 g38 h38 i38 j38 m38) (d_38:codeIn K j38 "_law_look"=true) (k_38:keepIn K (.ref f38)=true)
  (b_39:NsX K "_law_at" f39) (l_39:LkX K "_law_at" Ua f39 v39 o39 p39 s39 g39 h39 i39 j39 m39) (d_39:codeIn K j39 "_law_at"=true) (k_39:keepIn K (.ref f39)=true)
  (b_40:NsX K "_law_seen" f40) (l_40:LkX K "_law_seen" yv f40 v40 o40 p40 s40 g40 h40 i40 j40 m40) (d_40:codeIn K j40 "_law_seen"=true) (k_40:keepIn K (.ref f40)=true)
  (b_41:NsX K "_law_letters" f41) (l_41:LkX K "_law_letters" wQ f41 v41 o41 p41 s41 g41 h41 i41 j41 m41) (d_41:codeIn K j41 "_law_letters"=true) (k_41:keepIn K (.ref f41)=true)
  (b_42:NsX K "_law_by" f42) (l_42:LkX K "_law_by" Ub f42 v42 o42 p42 s42 g42 h42 i42 j42 m42) (d_42:codeIn K j42 "_law_by"=true) (k_42:keepIn K (.ref f42)=true)
  (b_43:NsX K "_law_told" f43) (l_43:LkX K "_law_told" yx f43 v43 o43 p43 s43 g43 h43 i43 j43 m43) (d_43:codeIn K j43 "_law_told"=true) (k_43:keepIn K (.ref f43)=true)
  (b_44:NsX K "law" f44) (l_44:LkX K "law" KQ f44 v44 o44 p44 s44 g44 h44 i44 j44 m44) (d_44:codeIn K j44 "law"=true) (k_44:keepIn K (.ref f44)=true) :
  ∃ fd:FuncData,(∀ (s:Shared) (v:Value),BindsTo s fd ⟨[v],[]⟩ [("_law_script",v)])/\∀ base:Heap,K.In base->base.Ns mainGlobals mg->FnOk l.prog w K mg base (CXk l.prog w) 9 fa fd ["_law_script"] (GF K):=by
 have e:=hfa.symm.trans (mg_of X G b_44)
 cases e
 obtain ⟨Z,cok⟩:=qe1 X G aW a0 a1 a2 a3 z_all z_bool z_dict z_enumerate z_int z_isinstance z_len z_list z_max z_min z_range z_reversed z_set z_sorted z_str z_tuple c_LEAST_PLACE c_MOST_LETTERS c_MOST_PLACE c_MOST_ROOM c_MOST_WORDS ex
 have T:Tx K mg (caT [("WordError",CW),("NoWords",C0),("NoLook",C1),("NoNumbers",C2),("NoRoom",C3)]):=⟨qy X G (fun _ _ _ _ _ _ us hl=>by revert hl; refine fun hl=>Wp (P:=fun us=>bindArgs _ ⟨us,[]⟩=pure (List.zip _ us)) hl ?_; intros; rfl) b_0 l_0 d_0 k_0,qy X G (fun _ _ _ _ _ _ us hl=>by revert hl; refine fun hl=>Wp (P:=fun us=>bindArgs _ ⟨us,[]⟩=pure (List.zip _ us)) hl ?_; intros; rfl) b_1 l_1 d_1 k_1,qy X G (fun _ _ _ _ _ _ us hl=>by revert hl; refine fun hl=>Wp (P:=fun us=>bindArgs _ ⟨us,[]⟩=pure (List.zip _ us)) hl ?_; intros; rfl) b_2 l_2 d_2 k_2,qy X G (fun _ _ _ _ _ _ us hl=>by revert hl; refine fun hl=>Wp (P:=fun us=>bindArgs _ ⟨us,[]⟩=pure (List.zip _ us)) hl ?_; intros; rfl) b_3 l_3 d_3 k_3,qy X G (fun _ _ _ _ _ _ us hl=>by revert hl; refine fun hl=>Wq (P:=fun us=>bindArgs _ ⟨us,[]⟩=pure (List.zip _ us)) hl ?_; intros; rfl) b_4 l_4 d_4 k_4,qy X G (fun _ _ _ _ _ _ us hl=>by revert hl; refine fun hl=>Wp (P:=fun us=>bindArgs _ ⟨us,[]⟩=pure (List.zip _ us)) hl ?_; intros; rfl) b_5 l_5 d_5 k_5,qy X G (fun _ _ _ _ _ _ us hl=>by revert hl; refine fun hl=>Wp (P:=fun us=>bindArgs _ ⟨us,[]⟩=pure (List.zip _ us)) hl ?_; intros; rfl) b_6 l_6 d_6 k_6,qy X G (fun _ _ _ _ _ _ us hl=>by revert hl; refine fun hl=>Uh (P:=fun us=>bindArgs _ ⟨us,[]⟩=pure (List.zip _ us)) hl ?_; intros; rfl) b_7 l_7 d_7 k_7,qy X G (fun _ _ _ _ _ _ us hl=>by revert hl; refine fun hl=>Uh (P:=fun us=>bindArgs _ ⟨us,[]⟩=pure (List.zip _ us)) hl ?_; intros; rfl) b_8 l_8 d_8 k_8,qy X G (fun _ _ _ _ _ _ us hl=>by revert hl; refine fun hl=>Uh (P:=fun us=>bindArgs _ ⟨us,[]⟩=pure (List.zip _ us)) hl ?_; intros; rfl) b_9 l_9 d_9 k_9,qy X G (fun _ _ _ _ _ _ us hl=>by revert hl; refine fun hl=>Uh (P:=fun us=>bindArgs _ ⟨us,[]⟩=pure (List.zip _ us)) hl ?_; intros; rfl) b_10 l_10 d_10 k_10,qy X G (fun _ _ _ _ _ _ us hl=>by revert hl; refine fun hl=>Wp (P:=fun us=>bindArgs _ ⟨us,[]⟩=pure (List.zip _ us)) hl ?_; intros; rfl) b_11 l_11 d_11 k_11,qy X G (fun _ _ _ _ _ _ us hl=>by revert hl; refine fun hl=>Wp (P:=fun us=>bindArgs _ ⟨us,[]⟩=pure (List.zip _ us)) hl ?_; intros; rfl) b_12 l_12 d_12 k_12,qy X G (fun _ _ _ _ _ _ us hl=>by revert hl; refine fun hl=>Wp (P:=fun us=>bindArgs _ ⟨us,[]⟩=pure (List.zip _ us)) hl ?_; intros; rfl) b_13 l_13 d_13 k_13,qy X G (fun _ _ _ _ _ _ us hl=>by revert hl; refine fun hl=>Wq (P:=fun us=>bindArgs _ ⟨us,[]⟩=pure (List.zip _ us)) hl ?_; intros; rfl) b_14 l_14 d_14 k_14,qy X G (fun _ _ _ _ _ _ us hl=>by revert hl; refine fun hl=>Wq (P:=fun us=>bindArgs _ ⟨us,[]⟩=pure (List.zip _ us)) hl ?_; intros; rfl) b_15 l_15 d_15 k_15,qy X G (fun _ _ _ _ _ _ us hl=>by revert hl; refine fun hl=>qbZ (P:=fun us=>bindArgs _ ⟨us,[]⟩=pure (List.zip _ us)) hl ?_; intros; rfl) b_16 l_16 d_16 k_16,qy X G (fun _ _ _ _ _ _ us hl=>by revert hl; refine fun hl=>Wp (P:=fun us=>bindArgs _ ⟨us,[]⟩=pure (List.zip _ us)) hl ?_; intros; rfl) b_17 l_17 d_17 k_17,qy X G (fun _ _ _ _ _ _ us hl=>by revert hl; refine fun hl=>Wq (P:=fun us=>bindArgs _ ⟨us,[]⟩=pure (List.zip _ us)) hl ?_; intros; rfl) b_18 l_18 d_18 k_18,qy X G (fun _ _ _ _ _ _ us hl=>by revert hl; refine fun hl=>Wq (P:=fun us=>bindArgs _ ⟨us,[]⟩=pure (List.zip _ us)) hl ?_; intros; rfl) b_19 l_19 d_19 k_19,qy X G (fun _ _ _ _ _ _ us hl=>by revert hl; refine fun hl=>Wp (P:=fun us=>bindArgs _ ⟨us,[]⟩=pure (List.zip _ us)) hl ?_; intros; rfl) b_20 l_20 d_20 k_20,qy X G (fun _ _ _ _ _ _ us hl=>by revert hl; refine fun hl=>Uh (P:=fun us=>bindArgs _ ⟨us,[]⟩=pure (List.zip _ us)) hl ?_; intros; rfl) b_21 l_21 d_21 k_21,qy X G (fun _ _ _ _ _ _ us hl=>by revert hl; refine fun hl=>Wq (P:=fun us=>bindArgs _ ⟨us,[]⟩=pure (List.zip _ us)) hl ?_; intros; rfl) b_22 l_22 d_22 k_22,qy X G (fun _ _ _ _ _ _ us hl=>by revert hl; refine fun hl=>Wp (P:=fun us=>bindArgs _ ⟨us,[]⟩=pure (List.zip _ us)) hl ?_; intros; rfl) b_23 l_23 d_23 k_23,qy X G (fun _ _ _ _ _ _ us hl=>by revert hl; refine fun hl=>Uh (P:=fun us=>bindArgs _ ⟨us,[]⟩=pure (List.zip _ us)) hl ?_; intros; rfl) b_24 l_24 d_24 k_24,qy X G (fun _ _ _ _ _ _ us hl=>by revert hl; refine fun hl=>Wp (P:=fun us=>bindArgs _ ⟨us,[]⟩=pure (List.zip _ us)) hl ?_; intros; rfl) b_25 l_25 d_25 k_25,qy X G (fun _ _ _ _ _ _ us hl=>by revert hl; refine fun hl=>Wq (P:=fun us=>bindArgs _ ⟨us,[]⟩=pure (List.zip _ us)) hl ?_; intros; rfl) b_26 l_26 d_26 k_26,qy X G (fun _ _ _ _ _ _ us hl=>by revert hl; refine fun hl=>qbZ (P:=fun us=>bindArgs _ ⟨us,[]⟩=pure (List.zip _ us)) hl ?_; intros; rfl) b_27 l_27 d_27 k_27,qy X G (fun _ _ _ _ _ _ us hl=>by revert hl; refine fun hl=>Uh (P:=fun us=>bindArgs _ ⟨us,[]⟩=pure (List.zip _ us)) hl ?_; intros; rfl) b_28 l_28 d_28 k_28,qy X G (fun _ _ _ _ _ _ us hl=>by revert hl; refine fun hl=>Wq (P:=fun us=>bindArgs _ ⟨us,[]⟩=pure (List.zip _ us)) hl ?_; intros; rfl) b_29 l_29 d_29 k_29,qy X G (fun _ _ _ _ _ _ us hl=>by revert hl; refine fun hl=>Wq (P:=fun us=>bindArgs _ ⟨us,[]⟩=pure (List.zip _ us)) hl ?_; intros; rfl) b_30 l_30 d_30 k_30,qy X G (fun _ _ _ _ _ _ us hl=>by revert hl; refine fun hl=>qbZ (P:=fun us=>bindArgs _ ⟨us,[]⟩=pure (List.zip _ us)) hl ?_; intros; rfl) b_31 l_31 d_31 k_31,qy X G (fun _ _ _ _ _ _ us hl=>by revert hl; refine fun hl=>Uh (P:=fun us=>bindArgs _ ⟨us,[]⟩=pure (List.zip _ us)) hl ?_; intros; rfl) b_32 l_32 d_32 k_32,qy X G (fun _ _ _ _ _ _ us hl=>by revert hl; refine fun hl=>Wq (P:=fun us=>bindArgs _ ⟨us,[]⟩=pure (List.zip _ us)) hl ?_; intros; rfl) b_33 l_33 d_33 k_33,qy X G (fun _ _ _ _ _ _ us hl=>by revert hl; refine fun hl=>Wq (P:=fun us=>bindArgs _ ⟨us,[]⟩=pure (List.zip _ us)) hl ?_; intros; rfl) b_34 l_34 d_34 k_34,qy X G (fun _ _ _ _ _ _ us hl=>by revert hl; refine fun hl=>Wq (P:=fun us=>bindArgs _ ⟨us,[]⟩=pure (List.zip _ us)) hl ?_; intros; rfl) b_35 l_35 d_35 k_35,qy X G (fun _ _ _ _ _ _ us hl=>by revert hl; refine fun hl=>qbZ (P:=fun us=>bindArgs _ ⟨us,[]⟩=pure (List.zip _ us)) hl ?_; intros; rfl) b_36 l_36 d_36 k_36,qy X G (fun _ _ _ _ _ _ us hl=>by revert hl; refine fun hl=>Wq (P:=fun us=>bindArgs _ ⟨us,[]⟩=pure (List.zip _ us)) hl ?_; intros; rfl) b_37 l_37 d_37 k_37,qy X G (fun _ _ _ _ _ _ us hl=>by revert hl; refine fun hl=>Uh (P:=fun us=>bindArgs _ ⟨us,[]⟩=pure (List.zip _ us)) hl ?_; intros; rfl) b_38 l_38 d_38 k_38,qy X G (fun _ _ _ _ _ _ us hl=>by revert hl; refine fun hl=>Uh (P:=fun us=>bindArgs _ ⟨us,[]⟩=pure (List.zip _ us)) hl ?_; intros; rfl) b_39 l_39 d_39 k_39,qy X G (fun _ _ _ _ _ _ us hl=>by revert hl; refine fun hl=>Uh (P:=fun us=>bindArgs _ ⟨us,[]⟩=pure (List.zip _ us)) hl ?_; intros; rfl) b_40 l_40 d_40 k_40,qy X G (fun _ _ _ _ _ _ us hl=>by revert hl; refine fun hl=>Uh (P:=fun us=>bindArgs _ ⟨us,[]⟩=pure (List.zip _ us)) hl ?_; intros; rfl) b_41 l_41 d_41 k_41,qy X G (fun _ _ _ _ _ _ us hl=>by revert hl; refine fun hl=>qbZ (P:=fun us=>bindArgs _ ⟨us,[]⟩=pure (List.zip _ us)) hl ?_; intros; rfl) b_42 l_42 d_42 k_42,qy X G (fun _ _ _ _ _ _ us hl=>by revert hl; refine fun hl=>qbZ (P:=fun us=>bindArgs _ ⟨us,[]⟩=pure (List.zip _ us)) hl ?_; intros; rfl) b_43 l_43 d_43 k_43⟩
 have F:=Uz (st:=KQ) l_44 d_44 k_44
 exact ⟨_,fun s v=>.of_eq rfl,fun base _ _=>(qdI (P:=l.prog) (w:=w) (base:=base) Z T F).imp fun vs H Q E q=>qe2 cok vs H Q E q⟩
theorem qfV {l:PySem.W.OpenLaw} {q:Program} {loose:List Str} {XP:(Str->Option Value)->Heap->Prop} {YP:World->Heap->Prop} {d:DefRec} {K:Params->Frag} (hn:l.most=some 63) (hdf:d.params.defaults=[])
  (hY:∀ (w:World) (h:Heap),YP w h->(K w.params).In h)
  (F:∀ (w:World) (mg:Str->Option Value) (fa:Addr) (h:Heap),(K w.params).In h->h.Ns mainGlobals mg->mg d.name=some (.ref fa) ->
   ∃ fd:FuncData,(∀ (s:Shared) (u:Value),BindsTo s fd ⟨[u],[]⟩ [("_law_script",u)])/\∀ base:Heap,(K w.params).In base->base.Ns mainGlobals mg->FnOk l.prog w (K w.params) mg base (CXk l.prog w) 9 fa fd ["_law_script"] (GF (K w.params))) :
  PySem.W.WalkO q loose XP YP l.row.toRowW d [] (fun f vs=>PySem.call f vs):=
 L2.qaG (n:=63) (k:=9) (x := "_law_script") (CX:=fun w=>CXk l.prog w) (sp:=fun w=>GF (K w.params)) hn (by decide) hdf ⟨rfl,by decide,by decide⟩ hY F (fun _ _ a ns hl _ hS=>⟨a,ns,rfl,hS,fun _=>rfl⟩) fun w H s e s' z=>by
  obtain ⟨ex,T,C,H',_,_,_,_,_,_,_,_,_,_,q⟩:=z
  exact q.elim
end Kx
open PySem PySem.W PyProof.Rows
set_option maxRecDepth 100000 in
set_option maxHeartbeats 0 in
theorem PySem.Challenge.cw_lookwords_k19_whole_mirrored_holds : PySem.Challenge.rw_lookwords_k19_whole_mirrored.Holds := by
  refine Kx.hd ?_
  k_fill
  refine Kx.qfV (l := PySem.Challenge.rw_lookwords_k19_whole_mirrored) rfl rfl (fun w h Y => PySem.W.kIn_of Y) ?F
  case F =>
    intro w mg fa h KX G hmg
    refine' Kx.qdJ KX G hmg ?_ ?_ ?_ ?_ ?_ ?_ ?_ ?_ ?_ ?_ ?_ ?_ ?_ ?_ ?_ ?_ ?_ ?_ ?_ ?_ ?_ ?_ ?_ ?_ ?_ ?_ ?_ ?_ ?_ ?_ ?_ ?_ ?_ ?_ ?_ ?_ ?_ ?_ ?_ ?_ ?_ ?_ ?_ ?_ ?_ ?_ ?_ ?_ ?_ ?_ ?_ ?_ ?_ ?_ ?_ ?_ ?_ ?_ ?_ ?_ ?_ ?_ ?_ ?_ ?_ ?_ ?_ ?_ ?_ ?_ ?_ ?_ ?_ ?_ ?_ ?_ ?_ ?_ ?_ ?_ ?_ ?_ ?_ ?_ ?_ ?_ ?_ ?_ ?_ ?_ ?_ ?_ ?_ ?_ ?_ ?_ ?_ ?_ ?_ ?_ ?_ ?_ ?_ ?_ ?_ ?_ ?_ ?_ ?_ ?_ ?_ ?_ ?_ ?_ ?_ ?_ ?_ ?_ ?_ ?_ ?_ ?_ ?_ ?_ ?_ ?_ ?_ ?_ ?_ ?_ ?_ ?_ ?_ ?_ ?_ ?_ ?_ ?_ ?_ ?_ ?_ ?_ ?_ ?_ ?_ ?_ ?_ ?_ ?_ ?_ ?_ ?_ ?_ ?_ ?_ ?_ ?_ ?_ ?_ ?_ ?_ ?_ ?_ ?_ ?_ ?_ ?_ ?_ ?_ ?_ ?_ ?_ ?_ ?_ ?_ ?_ ?_ ?_ ?_ ?_ ?_ ?_ ?_ ?_ ?_ ?_ ?_ ?_ ?_ ?_ ?_ ?_ ?_ ?_ ?_ ?_ ?_ ?_ ?_ ?_ ?_ ?_ ?_ ?_ ?_ ?_ ?_
    all_goals try first | k_is | (unfold Kx.NsX; k_is) | (unfold Kx.LkX; k_is) | kernel_rfl
